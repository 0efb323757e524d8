import Derived.Test.YtlhlkofpjhpaoaaGreatDoorMi
import Derived.Test.YtlhlkofpjhpaoaaGreatDoorMl
import Derived.Test.YtlhlkofpjhpaoaaGreatDoorMj
import Derived.Test.YtlhlkofpjhpaoaaGreatDoorMe
import Derived.Test.YtlhlkofpjhpaoaaGreatDoorMd
import Derived.Lib.AppendZeros
import Derived.Maps.OwnSet
import Derived.Maps.Keyed
import Derived.Carry
import Derived.Maps.RangeRun
set_option maxRecDepth 100000
set_option maxHeartbeats 2000000
open Array renaming getElem?_eq_some_iff->a7,getElem?_toList->dR,mem_of_getElem?->jP,toList_push->lE,getElem?_modify->nV
open Bool renaming and_eq_true->aN
open Go.Builtin renaming zeroCells->iO,len_->mI
open Go.ChangeMaps renaming setBlock->gH,heap_setBlock_same->oD
open Go.Instr renaming lookup->gN,findKey->lK,checkKey->mU,mapUpdate->qF
open Go.Lib renaming hid->c9
open Go.MapKept renaming run_getObj_map->fR,run_setObj_map->rN
open Go.Next renaming value->tK
open Go.Result renaming andThen_ok->aD,andThen->gG,ok->tN
open Go.Sem renaming run_bind->aG,run_pure->aH
open Go.Value renaming int->bM
open Iff renaming rfl->jO
open List renaming replicate->aA,length_append->aB,mem_singleton->aE,getElem?_eq_getElem->aK,mem_cons->aL,mem_of_getElem?->aR,size_toArray->aT,length_replicate->bE,mem_map->bP,mem_append->bR,getElem?_map->fA,map_append->fC,take_length->fU,nil_append->gJ,mem_append_left->g8,getElem?_of_mem->jL,mem_append_right->j6,getElem_mem->o9
open Nat renaming le_refl->aF,zero_le->aI,blt->aQ,le_trans->b8
open Option.some renaming inj->cR
namespace Go.Proofs.YtlhlkofpjhpaoaaGreatDoor
open Go.RowKit Go.IntWalk Nums
def z32b:List UInt8:=aA 32 0
theorem zb32:(Tryz.prog.info? 45).bind (λi=>i.zero.map (·.cells))=some (By z32b).toArray:=by kernel_rfl
structure LY2(w wr:World)(cs:Array Value)(m:List UInt8):Prop where
  b0:Blk wr w.heap.size 174 cs
  b1:Blk wr (w.heap.size+1) 45 (By z32b).toArray
  b2:Blk wr (w.heap.size+1+1) 45 (By m).toArray
  be:Below w.heap.size w wr
theorem LY2.set{w wr:World}{cs:Array Value}{m:List UInt8}(h:LY2 w wr cs m)(k:Nat)(x:UInt8):LY2 w (wr.setCell ⟨w.heap.size+1+1,k,none⟩ (.int .u8 (x.toNat:Int))) cs (m.set k x) where
 b0:=h.b0.far (by show w.heap.size≠w.heap.size+1+1;omega) _
 b1:=h.b1.far (by show w.heap.size+1≠w.heap.size+1+1;omega) _
 b2:=by
  have h4:=h.b2.set k (.int .u8 (x.toNat:Int));rw [By_set] at h4;exact h4
 be:=h.be.setCell (by show w.heap.size<=w.heap.size+1+1;omega) _
theorem lay256_f{l:List Nat}(hl:l.length=8)(hw:∀x∈l,x<4294967296)(w:World) :
  Calls Tryz.prog 89 #[.agg (Uw l).toArray] w λe w'=>e = .returned (.agg (By (l.map (iN bJ)).flatten).toArray)/\Below w.heap.size w w':=by
 have hD:=kM (iN bJ) (n:=4) (λx=>kJ bJ x) l;rw [hl] at hD
 have hg:∀i j,i<8->j<4->(((l.map (iN bJ)).flatten)[4*i+3-j]!).toNat=l[i]! / 256^j%256:=λi j hi hj=>by
  have h1:=flat_get (iN bJ) (n:=4) (λx=>kJ bJ x) l (i:=i) (j:=3-j) (by omega) (by omega);rw [show 4*i+3-j=4*i+(3-j) by omega,h1];exact layw_get (s:=bJ) (j:=j) hj
 have hzs:(Uw l).toArray.size=8:=by rw [aT,Uw_len,hl]
 have hix:∀i,i<8->∀w1,(Instr.index 174 (.agg (Uw l).toArray) (.int .i64 ((i:Nat):Int))).run Tryz.prog w1 = .ok (.int .u32 (l[i]! : Nat)) w1:=λi hi w1=>by
  have h0:(Uw l).toArray[i]?=some (.int .u32 (l[i]! : Nat)):=Uw_at (by omega)
  have h1:((i:Nat):Int)<8:=by omega
  have h2:(0:Int)<=(i:Nat):=by omega
  generalize l[i]! = c at *;generalize (Uw l).toArray=cs at *
  unfold Instr.index Go.part
  go_simp
  obtain⟨_,h⟩:=a7.1 h0;exact h
 have hwl:∀i,i<8->l[i]! < 4294967296:=λi hi=>by
  rw [getElem!_pos l i (by omega)];exact hw _ (o9 _)
 generalize (l.map (iN bJ)).flatten=D at *;generalize (Uw l).toArray=cs at *
 go_enter Tryz.func89,Tryz.ntmps89
 refine wp_seq_k λK hK=>?_;refine wp_region_lit ?_;refine wpl_box cs rfl rfl rfl ?_;refine wpl_alloc (zs:=(By z32b).toArray) rfl rfl zb32 ?_;refine wpl_nil ?_
 go_simp
 refine hK _ _ ?_;clear hK K;refine wp_seq_k λK hK=>?_;refine wp_region_lit ?_;refine wpl_alloc (zs:=(By z32b).toArray) rfl rfl zb32 ?_;refine wpl_nil ?_
 go_simp
 refine hK _ _ ?_;clear hK K;refine wp_at (λW=>LY2 w W cs z32b) ⟨blk3_0 w _ _ _ _,blk3_1 w _ _ _ _,blk3_2 w _ _ _ _,(((Below.refl _ _).alloc (aF _) _).alloc (by simp) _).alloc (by simp;omega) _⟩ ?_
 intro W hW
 have k0:=hW.b0;have HW:=c9 hW;clear hW
 go_wp2_with (refine wpList_load_row rfl 174 _ rfl w.heap.size rfl 174 cs (0,0) _ k0 Tryz.underlying174 rfl (size_v8 _ hzs) ?_)
 clear k0
 go_loopw [8] (λi wr=>∃t:Nat,t<=8/\i = .int .i64 t/\LY2 w wr cs (pf D λm=>decide (m<4*t))) (λi _=>8-(intOf i).toNat)
 case atStart =>
  refine⟨0,by omega,rfl,?_⟩;rw [sN (λm _=>decide_eq_false (by omega)),hD];exact HW.out
 case round =>
  clear HW;obtain⟨t,ht,rfl,hS⟩:=hrel
  by_cases htl:t<8
  ·have hi:=hix t htl
   have hx:=hwl t htl;have hby:=λj hj=>hg t j htl hj;generalize l[t]! = x at *
   have g4:(0:Int)<=(t:Int):=by omega
   have HS:=c9 hS;clear hS hg hix hwl
   go_wp2
   go_loopw [12,5] (λj v wq=>∃n:Nat,n<=4/\j = .int .i64 n/\v = .int .u32 ((x/256^n:Nat):Int)/\LY2 w wq cs (pf D λm=>decide (m<4*t\/4*t+4-n<=m/\m<4*t+4))) (λj _ _=>4-(intOf j).toNat)
   case atStart =>
    refine⟨0,by omega,rfl,by rw [Nat.pow_zero,Nat.div_one],?_⟩;rw [mY (q:=λm=>decide (m<4*t)) (λm _=>decide_eq_decide.2 (by omega))];exact HS.out
   case round =>
    clear HS;obtain⟨n,hn,rfl,rfl,hS⟩:=hrel
    by_cases hnl:n<4
    ·have hN:=hS.set (4*t+3-n) D[4*t+3-n]!
     rw [uO (q:=λm=>decide (m<4*t\/4*t+4-(n+1)<=m/\m<4*t+4)) (λm _=>by rw [<-Bool.decide_or];exact decide_eq_decide.2 (by omega))] at hN;have hb:=hby n hnl
     have hdiv:x/256^(n+1)=x/256^n/256:=by rw [Nat.pow_succ,Nat.div_div_eq_div_mul]
     have hle:x/256^n<4294967296:=Nat.lt_of_le_of_lt (Nat.div_le_self _ _) hx;have c2:=(hS.b2.cell (4*t+3-n)).trans (By_get (by rw [uP,hD];omega));have f2:=hS.b2.free (4*t+3-n);generalize x/256^n=y at *
     have q4:IntKind.u8.wrap (y:Int)=((D[4*t+3-n]!).toNat:Int):=by
      rw [IntKind.wrap_u8',hb]
      omega
     have g5:(0:Int)<=(n:Int):=by omega
     have q5:(y:Int)/256=((y/256:Nat):Int):=by omega
     have HN:=c9 (And.intro hN hdiv);clear hS hN hdiv hb hby hi;generalize (D[4*t+3-n]!).toNat=v at *;generalize ((pf D λm=>decide (m<4*t\/4*t+4-n<=m/\m<4*t+4))[4*t+3-n]!).toNat=old at *;generalize y/256=y2 at *
     go_wp2
     go_roundw
     case rel =>
      obtain⟨hN,hdiv⟩:=HN.out;refine⟨n+1,by omega,by go_num,by rw [hdiv],hN⟩
     case measure=>simp [intOf];omega
    ·obtain rfl:n=4:=by omega
     rw [mY (q:=λm=>decide (m<4*(t+1))) (λm _=>decide_eq_decide.2 (by omega))] at hS;have HS:=c9 hS;clear hS
     go_wp2
     go_roundw
     case rel=>exact⟨t+1,by omega,by go_num,HS.out⟩
     case measure=>simp [intOf];omega
  ·obtain rfl:t=8:=by omega
   rw [uQ (λm hm=>decide_eq_true (by omega))] at hS;obtain⟨b0,b1,b2,be⟩:=hS
   have hz:(By D).toArray.size=32:=by rw [aT,By_len,hD]
   clear b0
   go_wp2_with (first
    | (refine wpList_load_row rfl 45 _ rfl (w.heap.size+1+1) rfl 45 (By D).toArray (0,0) _ b2 Tryz.underlying45 rfl (size_hash _ hz) ?_)
    | (refine wpList_store_row rfl 45 _ _ rfl (w.heap.size+1) rfl (By D).toArray rfl 45 _ b1 (size_hash _ hz) (by rw [hz];rfl) (By_one _) ?_))
   refine bodyPost_ret (results_cell_row rfl _ _ (w.heap.size+1) 45 (By D).toArray (0,0) _ rfl (b1.row _) Tryz.underlying45 rfl (size_hash _ hz)) rfl ⟨rfl,?_⟩;exact below_setRow be (by omega) _
theorem zv8:(Tryz.prog.info? 174).bind (λi=>i.zero.map (·.cells))=some z8v:=by kernel_rfl
structure Tst(w:World):Prop where
  cell:∀i,i<8->w.cell? ⟨0,i,none⟩=some (.int .u64 (sqs[i]! : Nat))
  lt : 0 < w.heap.size
theorem Tst.below{w w':World}(h:Tst w)(hb:Below w.heap.size w w'):Tst w' :=
 ⟨λi hi=>(hb.cell (p:=⟨0,i,none⟩) h.lt).trans (h.cell i hi),Nat.lt_of_lt_of_le h.lt hb.size⟩
structure FI2(w wr:World)(l:List Nat):Prop where
  b0:Blk wr w.heap.size 174 z8v
  b1:Blk wr (w.heap.size+1) 174 (Uw l).toArray
  be:Below w.heap.size w wr
theorem FI2.set{w wr:World}{l:List Nat}(h:FI2 w wr l)(k x:Nat):FI2 w (wr.setCell ⟨w.heap.size+1,k,none⟩ (.int .u32 (x:Int))) (l.set k x) where
 b0:=h.b0.far (by show w.heap.size≠w.heap.size+1;omega) _
 b1:=by
  have h4:=h.b1.set k (.int .u32 (x:Int));rw [Uw_set] at h4;exact h4
 be:=h.be.setCell (by show w.heap.size<=w.heap.size+1;omega) _
theorem sqs_lt{t:Nat}(h:t<8):sqs[t]! < 18446744073709551616:=by
 have h1:∀x∈sqs,x<18446744073709551616:=by decide
 have h2:t<sqs.length:=h;rw [getElem!_pos sqs t h2];exact h1 _ (o9 _)
def sqh(t:Nat):Nat:=sqs[t]! / 4294967296
def z8n:List Nat:=[0,0,0,0,0,0,0,0]
theorem first_all:mxl sqh z8n 8=bJ.start:=by decide +kernel
theorem first256_f(w:World)(hT:Tst w) :
  Calls Tryz.prog 85 #[] w λe w'=>e = .returned (.agg (Uw bJ.start).toArray)/\Below w.heap.size w w':=by
 rw [<-first_all]
 have hlen:∀t,(mxl sqh z8n t).length=8:=λt=>by rw [fD];rfl
 go_enter Tryz.func85,Tryz.ntmps85
 refine wp_seq_k λK hK=>?_;refine wp_region_lit ?_;refine wpl_alloc (zs:=z8v) rfl rfl zv8 ?_;refine wpl_nil ?_
 go_simp
 refine hK _ _ ?_;clear hK K;refine wp_seq_k λK hK=>?_;refine wp_region_lit ?_;refine wpl_alloc (zs:=z8v) rfl rfl zv8 ?_;refine wpl_nil ?_
 go_simp
 refine hK _ _ ?_;clear hK K
 have hb2:Blk ((w.alloc (.cells z8v 174)).alloc (.cells z8v 174)) (w.heap.size+1) 174 z8v:=by
  have h:=Blk.new (w.alloc (.cells z8v 174)) 174 z8v
  rwa [World.size_alloc] at h
 refine wp_at (λW=>FI2 w W z8n) ⟨(Blk.new w _ _).alloc _,hb2,((Below.refl _ _).alloc (aF _) _).alloc (by simp) _⟩ ?_
 intro W hW
 clear hb2;have HW:=c9 hW;clear hW
 go_wp2
 go_loopw [3] (λi wr=>∃t:Nat,t<=8/\i = .int .i64 t/\FI2 w wr (mxl sqh z8n t)) (λi _=>8-(intOf i).toNat)
 case atStart =>
  refine⟨0,by omega,rfl,?_⟩;rw [jH];exact HW.out
 case round =>
  clear HW;obtain⟨t,ht,rfl,hS⟩:=hrel
  by_cases htl:t<8
  ·have hN:=hS.set t (sqh t)
   rw [gX] at hN;have hg:=(hT.below hS.be).cell t htl;have hlt:=sqs_lt htl;have c1:=(hS.b1.cell t).trans (Uw_at (by rw [hlen];omega));have f1:=hS.b1.free t;have e1:sqh t=sqs[t]! / 4294967296:=rfl
   have hq:sqh t<4294967296:=by omega
   have q1:((sqs[t]! : Nat):Int)/4294967296=((sqh t:Nat):Int):=by omega
   have q2:IntKind.u32.wrap ((sqh t:Nat):Int)=((sqh t:Nat):Int):=by rw [IntKind.wrap_u32];omega
   have g4:(0:Int)<=(t:Int):=by omega
   have HN:=c9 hN;clear hS hN e1 hT hlen;generalize sqh t=y at *;generalize sqs[t]! = x at *;generalize (mxl sqh z8n t)[t]! = old at *
   go_wp2
   go_roundw
   case rel=>exact⟨t+1,by omega,by go_num,HN.out⟩
   case measure=>simp [intOf];omega
  ·obtain rfl:t=8:=by omega
   obtain⟨b0,b1,be⟩:=hS
   have hz:(Uw (mxl sqh z8n 8)).toArray.size=8:=by rw [aT,Uw_len,hlen]
   clear hT
   go_wp2_with (first
    | (refine wpList_load_row rfl 174 _ rfl (w.heap.size+1) rfl 174 (Uw (mxl sqh z8n 8)).toArray (0,0) _ b1 Tryz.underlying174 rfl (size_v8 _ hz) ?_)
    | (refine wpList_store_row rfl 174 _ _ rfl w.heap.size rfl (Uw (mxl sqh z8n 8)).toArray rfl 174 _ b0 (size_v8 _ hz) (by rw [hz];rfl) (Uw_one _) ?_))
   refine bodyPost_ret (results_cell_row rfl _ _ w.heap.size 174 (Uw (mxl sqh z8n 8)).toArray (0,0) _ rfl (b0.row _) Tryz.underlying174 rfl (size_v8 _ hz)) rfl ⟨rfl,?_⟩;exact below_setRow be (aF _) _
theorem own_lay256:Own 89:=λ_ _=>by go_simp
theorem own_first256:Own 85:=λ_ _=>by go_simp
theorem own_sum256:Own 63:=λ_ _=>by go_simp
def start256:Oct:=⟨bJ.start[0]!,bJ.start[1]!,bJ.start[2]!,bJ.start[3]!,bJ.start[4]!,bJ.start[5]!,bJ.start[6]!,bJ.start[7]!⟩
theorem start256_ob:OB 32 start256:=by
 constructor<;>decide
theorem start256_list:start256.list=bJ.start:=by decide
theorem OB.list_lt2{o:Oct}(h:OB 32 o):∀x∈o.list,x<4294967296:=by
 intro x hx
 simp only [Oct.list,aL,List.not_mem_nil,or_false] at hx
 rcases hx with rfl|rfl|rfl|rfl|rfl|rfl|rfl|rfl
 ·exact h.a
 ·exact h.b
 ·exact h.c
 ·exact h.d
 ·exact h.e
 ·exact h.f
 ·exact h.g
 ·exact h.h
theorem own_take256:Own 87:=λ_ _=>by go_simp
instance pst_st:Pst Tst:=⟨λ_ _ h hb=>h.below hb⟩
theorem first256_C:Ct Tst 85 [] (one (.q (eZ 8 start256.list))):=⟨own_first256,Spec.pure (eZ_ok rfl) λw h=>by
 rw [start256_list]
 exact first256_f w h⟩
def k256:BK:=⟨bJ,64,174,74,λo=>[.agg 8 (Uw o.list).toArray],87⟩
theorem k256_ok:k256.Ok where
 n64:=by decide
 n128:=by decide
 own:=own_take256
 tk:=λ{gh gb o b} ho hb=>by
  refine zQ (own:=k256.R gh gb o b) [.c (.v (atG gh)),.c (.v (atG gb))] 5 Tryz.func87 rfl (by rw [Tryz.ntmps87];rfl) (two_ok trivial trivial) λB=>?_;refine s_lit (l_ldO zY rfl rfl rfl rfl rfl rfl (rd_obj 0 rfl) (l_ldO zY rfl rfl rfl rfl rfl rfl (rd_obj 1 rfl) ?_));refine l_X (turn256_C ho hb) (λ_=>rfl) rfl λ_=>l_stO zY 0 rfl rfl rfl rfl rfl rfl rfl (l_E rfl ?_);exact zR zY () rfl (by decide) rfl rfl rfl (λ_ _ _=>trivial) λ_ _=>trivial
theorem lay256_C{F:World->Prop}{o:Oct}(ho:OB 32 o):Ct F 89 [eZ 8 o.list] (one (.q (eY 32 (o.list.map (iN bJ)).flatten))):=⟨own_lay256,Spec.pure (eY_ok (by rw [kM (iN bJ) λx=>kJ bJ x];rfl)).1 λw _=>lay256_f rfl (OB.list_lt2 ho) w⟩
theorem sum256_C{P:Option Addr}{pc:Nat}{ss:List Seg}(hn:ss.length<=9223372036854775807):Ct (λw=>Tsh w/\PartsF P pc ss w) 63 [.c (.v (.slice P ss.length pc))] (one (.q (eY 32 (cE bJ (ss.map Seg.l).flatten)))):=⟨own_sum256,by
 refine zQ [.c (.v (.slice P ss.length pc))] 12 Tryz.func63 rfl (by rw [Tryz.ntmps63];rfl) (one_ok trivial) λB=>?_;refine zA rfl ?_;refine s_reg λK hK=>l_X ((first256_C).imp λ_ h=>⟨h.1.cell,h.1.lt⟩) (λ_=>rfl) rfl λ_=>l_N hK rfl ?_;refine s_reg λK hK=>l_auto2 rfl (zJ (k_give 4 rfl (E':=[(0,.v (.slice P ss.length pc)),(2,.a 2 0),(3,.a 3 0)]) ⟨rfl,rfl,rfl,trivial⟩ λgb=>k_give 3 rfl (E':=[(4,.v (atG gb)),(0,.v (.slice P ss.length pc)),(2,.a 2 0)]) ⟨rfl,rfl,rfl,trivial⟩ λgh=>hK _ ?_));refine s_reg λK hK=>l_op (.v (.slice (some ⟨gb,0,none⟩) 64 64)) trivial rfl rfl rfl (runO_allP rfl Tryz.underlying74 size_u8 rfl) (zB rfl (l_op (.v (k256.take gh gb)) trivial rfl rfl rfl (run_makeF (vals:=[atG gh,atG gb]) rfl rfl λ_=>rfl) ?_));refine l_callA (own:=k256.R gh gb start256 (aA 64 0)) (R':=[]) [.slice (some ⟨gb,0,none⟩) 64 64,.slice P ss.length pc,k256.take gh gb] rfl rfl rfl (λ_ _=>by go_simp) rfl rfl (λ_ _=>rfl) (fill_S k256_ok start256_ob bE hn) (λw h _=>⟨h.1.steps,h.2⟩) λb'=>?_;have hD:((eH bJ 64 start256 ((ss.map Seg.l).flatten++eC 64 ((ss.map Seg.l).flatten.length%64) (8*(ss.map Seg.l).flatten.length))).list.map (iN bJ)).flatten=cE bJ (ss.map Seg.l).flatten:=rfl;have hO:OB 32 (eH bJ 64 start256 ((ss.map Seg.l).flatten++eC 64 ((ss.map Seg.l).flatten.length%64) (8*(ss.map Seg.l).flatten.length))):=ob_runw (s:=bJ) _ _ _ (aF _) start256_ob;refine l_R (k256.R gh gb (eH bJ 64 start256 ((ss.map Seg.l).flatten++eC 64 ((ss.map Seg.l).flatten.length%64) (8*(ss.map Seg.l).flatten.length))) b'.1) rfl (l_N hK rfl ?_);generalize eH bJ 64 start256 ((ss.map Seg.l).flatten++eC 64 ((ss.map Seg.l).flatten.length%64) (8*(ss.map Seg.l).flatten.length))=o at *;refine s_freeO 0 rfl (s_freeO 0 rfl ?_);refine s_reg λK hK=>l_ldO zY rfl rfl rfl rfl rfl rfl (λ_ _ _ hv=>hv.fact.2.1) (l_X (lay256_C hO) (λ_=>rfl) rfl λ_=>l_N hK rfl (zP ?_));rw [hD]
 exact zR zY () rfl (by decide) rfl rfl rfl (λ_ _ _=>trivial) λ_ _=>trivial⟩
theorem sum256_f(A:Option Addr)(ls:List (List UInt8))(pc:Nat)(w:World)(hT:Tsh w)(hA:Parts w w.heap.size A ls)(hpc:ls.length<=pc)(hpm:pc<=9223372036854775807) :
  Calls Tryz.prog 63 #[.slice A ls.length pc] w λe w'=>e = .returned (.agg (By (cE bJ ls.flatten)).toArray)/\Below w.heap.size w w':=by
 obtain⟨ss,rfl,h⟩:=segs_of ⟨hpc,hpm⟩ hA;rw [List.length_map] at *;exact(sum256_C (by omega)).row ⟨hT,h⟩
theorem hbody_S{k:List UInt8}(v:Int)(hk:k.length=32):Spec 47 [.int .i64 v,.agg (By k).toArray] [] (λ_=>True) (madeN (bodyH v k)):=by
 refine zQ [.c (.v (.int .i64 v)),eY 32 k] 11 Tryz.func47 rfl (by rw [Tryz.ntmps47];rfl) (two_ok trivial (eY_ok hk).1) λb=>?_;refine zC rfl λK1 hK1=>?_;refine zJ (k_give 3 rfl (E':=[(0,.v (.int .i64 v)),(4,.v (.slice none 0 0))]) ⟨rfl,rfl,trivial⟩ λg=>hK1 _ ?_);refine s_freeO 0 rfl ?_;refine zM λK2 hK2=>?_;refine s_any 4 [] (by kernel_rfl) (by decide) (λ_ _ _ _ h=>by cases h) ?_;refine a_front zY 0 (by kernel_rfl) rfl rfl rfl rfl rfl rfl (λ_ h=>by cases h) ?_;refine a_front zY 1 (by kernel_rfl) rfl rfl rfl rfl rfl rfl (λ_ h=>by cases h) ?_;refine a_frontO (.v (.slice (some ⟨g,0,none⟩) 32 32)) trivial 3 (by kernel_rfl) rfl rfl rfl rfl rfl (runO_allP rfl Tryz.underlying45 rfl rfl) ?_;refine a_step 2 (by kernel_rfl) rfl λK3 hK3=>?_;refine l_num 6 (u64N v:Int) rfl (u64N_is v) ?_;refine l_call0 [.slice none ([]:List UInt8).length 0,.int .u64 (u64N v:Int)] rfl rfl rfl (λ_ _=>by go_simp) rfl rfl (λ_ _=>rfl) (wnum_S [] (u64N v) (u64N_lt v) (by decide)) (λ_ _ _=>Rd.nil _ _ _) λgc=>?_;rw [gJ];refine zJ (hK3 _ (λ_ _ _ _ h=>by cases h) ?_);refine a_tail (by kernel_rfl) ?_;refine l_eq 8 (.v (.slice (some ⟨g,0,none⟩) k.length 32)) rfl (by rw [hk]) ?_;refine l_list zY b.B.heap.size [⟨some ⟨gc,0,none⟩,(be8 (u64N v)).length,be8 (u64N v)⟩,⟨some ⟨g,0,none⟩,32,k⟩] (fe:=eSeg) rfl rfl rfl rfl rfl (λ_=>rfl) rfl (by decide) (by decide) (okF_seg _) (aF _) λP=>?_;refine l_free 0 rfl ?_
 have e0:(List.map Seg.l [⟨some ⟨gc,0,none⟩,(be8 (u64N v)).length,be8 (u64N v)⟩,⟨some ⟨g,0,none⟩,32,k⟩]).flatten=bodyH v k:=by simp [bodyH]
 have hj:=join_S (A:=P) (c:=2) [⟨some ⟨gc,0,none⟩,(be8 (u64N v)).length,be8 (u64N v)⟩,⟨some ⟨g,0,none⟩,32,k⟩] (by rw [e0,bodyH_len hk];decide);rw [e0] at hj
 refine l_call0 [.slice P 2 2] rfl rfl rfl (λ_ _=>by go_simp) rfl rfl (λ_ _=>rfl) hj (λw h hM=>⟨h.1,λs hs=>by
  rcases aL.1 hs with rfl|hs
  ·exact hM.1
  ·rw [aE.1 hs]
   exact obj_rd (n:=32) h.2.2.1 (Nat.le_of_ble_eq_true rfl)⟩) λgb=>?_
 refine zB rfl (zJ (hK2 _ ?_));exact zP (zR zY gb rfl (by decide) rfl rfl rfl (λ_ _ _=>trivial) (λw h=>h.1))
theorem hmake_S{seed key:List UInt8}(v:Int)(hs:seed.length=32)(hk:key.length=32):Spec 26 [.agg (By seed).toArray,.int .i64 v,.agg (By key).toArray] [] Ta (one (.q (eU (mkH seed v key)))):=by
 refine zQ [eY 32 seed,.c (.v (.int .i64 v)),eY 32 key] 19 Tryz.func26 rfl (by rw [Tryz.ntmps26];rfl) (more_ok (eY_ok hs).1 (two_ok trivial (eY_ok hk).1)) λb=>?_;refine zA rfl ?_;refine s_regH 6 (by decide) (by kernel_rfl) (by kernel_rfl) λK hK G S w0 hst=>?_;refine zV hst rfl ?_;refine h_callE (F':=λ_=>True) hst [.int .i64 v,.agg (By key).toArray] rfl rfl rfl rfl (λ_ _=>by go_simp) rfl rfl (λ_=>rfl) (hbody_S v hk).p1 (λ_ _ _=>trivial) λgb _=>?_;refine h_callE (F':=λw=>Ta w/\Rd 1 eB (some ⟨gb,0,none⟩) (bodyH v key).length (bodyH v key) w) hst [.agg (By seed).toArray,.int .u8 1,.slice (some ⟨gb,0,none⟩) (bodyH v key).length (bodyH v key).length] rfl rfl rfl rfl (λ_ _=>by go_simp) rfl rfl (λ_=>rfl) (seal_S 1 hs (by rw [bodyH_len hk];decide)) (λw hw hu=>⟨hw.fact,madeP_rd (hu 3 _ rfl (by kernel_rfl))⟩) λ_ _=>?_;refine h_alloc (By (aA 64 0)).toArray rfl rfl rfl rfl rfl (by kernel_rfl) λg=>?_;have h64:=pT seed (msg 1 (bodyH v key));refine h_endV hst (ps:=[.agg 64 (By (aA 64 0)).toArray]) 7 5 [(12,.q (eY 64 (jE seed (msg 1 (bodyH v key))))),(1,.v (.int .i64 v)),(3,.a 3 0),(5,.a 5 0),(6,.a 6 0)] rfl rfl ⟨rfl,rfl,rfl,rfl,rfl,trivial⟩ rfl rfl (eY_ok bE).1 ?_;generalize hsg:jE seed (msg 1 (bodyH v key))=sg at *;refine zB rfl (zJ (hK _ ?_));refine s_regH 6 (by decide) (by kernel_rfl) (by kernel_rfl) λK2 hK2 G S w0 hst=>?_;have hk0:=nM seed;refine zV hst rfl ?_;refine h_callS (F':=Ta) (r:=.q (eY 32 (gE seed))) hst [.agg (By seed).toArray] rfl rfl rfl rfl own_public rfl rfl (λ_=>rfl) (eY_ok hk0).1 (public_S hs) (λ_ _ _ hv=>hv.fact) ?_;generalize hpk:gE seed=pk at *
 have hmk:mkH seed v key=⟨pk,v,key,sg⟩:=by unfold mkH;rw [hpk,hsg]
 refine zV hst rfl ?_;refine h_end hst ?_;refine zB rfl (zJ (hK2 _ ?_));exact zP (zR zY () rfl (by decide) rfl (by show RV.q (eU (mkH seed v key))=_;rw [hmk];rfl) rfl (λ_ _ _=>trivial) zU)
theorem hsigned_S{u:UV}(hu:u.Ok):Spec 27 [(eU u).den] [] Ta (one (.q (.c (.b (signB u))))):=by
 refine zQ [eU u] 23 Tryz.func27 rfl (by rw [Tryz.ntmps27];rfl) (one_ok hu.parts_ok) λb=>?_;refine zA rfl ?_;refine s_regH 20 (by decide) (by kernel_rfl) (by kernel_rfl) λK hK G S w0 hst=>?_;refine zV hst rfl ?_;have hgo:signB u=false->kS b (bodyPost Tryz.prog Tryz.f27 (endS b (one (.q (.c (.b (signB u)))))) .ret) 23 ⟨[(2,.v (.bool false))],[],[],Ta,λ_=>True⟩:=λh=>k_retD zY () rfl (by decide) rfl (congrArg Value.bool h) trivial rfl (λ_ _ _=>trivial) zU
 by_cases h1:1<=u.ver
 ·refine h_is 6 true rfl (decide_eq_true h1) ?_
  refine zV hst rfl ?_
  by_cases h2:u.ver<=64
  ·have hsb:signB u=rightB u.id u.sig (msg 1 (bodyH u.ver u.key)):=by unfold signB;rw [decide_eq_true ⟨h1,h2⟩,Bool.true_and]
   refine h_is 11 true rfl (decide_eq_true h2) ?_;refine zV hst rfl ?_;refine h_callE (F':=λ_=>True) hst [.int .i64 u.ver,.agg (By u.key).toArray] rfl rfl rfl rfl (λ_ _=>by go_simp) rfl rfl (λ_=>rfl) (hbody_S u.ver hu.key).p1 (λ_ _ _=>trivial) λgb _=>?_;refine zV hst rfl ?_;refine h_callE (F':=λw=>Ta w/\Rd 1 eB (some ⟨gb,0,none⟩) (bodyH u.ver u.key).length (bodyH u.ver u.key) w) hst [.agg (By u.id).toArray,.int .u8 1,.slice (some ⟨gb,0,none⟩) (bodyH u.ver u.key).length (bodyH u.ver u.key).length,.agg (By u.sig).toArray] rfl rfl rfl rfl (λ_ _=>by go_simp) rfl rfl (λ_=>rfl) (owned_S 1 hu.id hu.sig (by rw [bodyH_len hu.key];decide)) (λw hw hx=>⟨hw.fact,madeP_rd (hx 15 _ rfl (by kernel_rfl))⟩) λ_ _=>?_;refine zV hst rfl ?_;refine h_end hst ?_;refine zB rfl (zJ (hK _ ?_));exact zP (k_retD zY () rfl (by decide) rfl (congrArg Value.bool hsb) trivial rfl (λ_ _ _=>trivial) zU)
  ·have hsb:signB u=false:=by unfold signB;rw [decide_eq_false (λh=>h2 h.2),Bool.false_and]
   refine h_is 11 false rfl (decide_eq_false h2) ?_;refine zV hst rfl ?_;refine h_end hst ?_;refine zB rfl ?_;exact zJ (hK _ (zP (k_weak (e':=⟨[(2,.v (.bool false))],[],[],Ta,λ_=>True⟩) ⟨⟨rfl,trivial⟩,trivial,.refl _,λ_ h _=>h,λ_ h=>h⟩ (hgo hsb))))
 ·have hsb:signB u=false:=by unfold signB;rw [decide_eq_false (λh=>h1 h.1),Bool.false_and]
  refine h_is 6 false rfl (decide_eq_false h1) ?_;refine zV hst rfl ?_;refine h_end hst ?_;refine zB rfl ?_;exact zJ (hK _ (zP (k_weak (e':=⟨[(2,.v (.bool false))],[],[],Ta,λ_=>True⟩) ⟨⟨rfl,trivial⟩,trivial,.refl _,λ_ h _=>h,λ_ h=>h⟩ (hgo hsb))))
theorem sumP{A:Option Addr}{ls:List (List UInt8)}{w:World}(n:Nat)(hn:ls.length=n)(hm:n<=9223372036854775807)(hT:Ta w)(h:PT w A ls) :
  Calls Tryz.prog 63 #[.slice A n n] w λe w'=>e = .returned (.agg (By (cE bJ ls.flatten)).toArray)/\Below w.heap.size w w':=by
 subst hn;exact sum256_f A ls _ w hT.2 h (aF _) hm
theorem pick_key{ks:List (List UInt8)}{A:Option Addr}{c:Nat}{w:World}(h:Rd 32 (eY 32) A c ks w){i:Nat}{x:List UInt8}(hx:ks[i]?=some x):x.length=32:=eY_len (h.2.2.2.1 x (aR hx)).1
theorem sumR{A:Option Addr}{ls:List (List UInt8)}{w:World}(n:Nat)(hn:ls.length=n)(hm:n<=9223372036854775807)(hl:ls.flatten.length<=70368744177664)(h:PT w A ls) :
  Calls Tryz.prog 58 #[.slice A n n] w λe w'=>e = .returned (.agg (By (cE bJ ls.flatten)).toArray)/\Below w.heap.size w w':=by
 subst hn;exact rsum_f A ls _ ⟨aF _,hm⟩ hl w h
theorem hvalue_S{A:Option Addr}{c:Nat}(ks:List (List UInt8)):Spec 42 [.slice A ks.length c] [] (λw=>Ta w/\Rd 32 (eY 32) A c ks w) (one (.q (eY 32 (valH ks)))):=by
 refine zQ [.c (.v (.slice A ks.length c))] 26 Tryz.func42 rfl (by rw [Tryz.ntmps42];rfl) (one_ok trivial) λb=>?_;refine s_pure ((∀x∈ks,x.length=32)/\ks.length<=9223372036854775807) (λw h _=>⟨λx hx=>eY_len (h.2.2.2.2.1 x hx).1,b8 h.2.1 h.2.2.1⟩) λ⟨h32,hm⟩=>?_;refine zA rfl (zA rfl ?_);refine zM λK hK=>?_;refine zA rfl (zN ?_)
 let F:Nat->Env:=λi=>⟨[(8,.v (.int .i64 (i:Int))),(7,.v (.int .i64 (ks.length:Int))),(6,.v (.slice A ks.length c)),(0,.v (.slice A ks.length c)),(3,.a 3 0),(2,.a 2 0)],[⟨3,none,45,[.agg 32 (By (dH (ks.take i))).toArray]⟩,⟨2,none,45,[.agg 32 (By zH).toArray]⟩],[],λw=>Ta w/\Rd 32 (eY 32) A c ks w,λ_=>True⟩
 refine c_weak (e':=F 0) ⟨zE rfl, zL rfl rfl, .refl _,λ_ h _=>h, zU⟩ (s_loop (λi=>ks.length-i) F (λi=>i<=ks.length) ?_ 0 (aI _))
 intro i hi
 refine zA rfl (zM λK3 hK3=>?_);refine zW ((i:Int)<(ks.length:Int)) rfl (λhlt=>?_) (λhge=>?_)
 ·have hlt:i<ks.length:=by omega
  obtain⟨x,hx⟩:∃x,ks[i]?=some x:=⟨_,aK hlt⟩;have hx2:=h32 x (aR hx);have hd2:=dH_len (ks.take i);have hn:=dH_next hx;refine zO (hK3 _ (zM λK4 hK4=>?_));refine zN (zC rfl λK5 hK5=>?_);refine l_elem zY rfl rfl rfl i rfl hx rfl rfl (rd_fact λ_ h _=>h.2) ?_;refine zB rfl (zJ (hK5 _ ?_));generalize dH (ks.take i)=d at *;have hkl:(keyH d x).length=32:=dig_len _;have hkd:keyH d x=cE bJ ([[3],d,x]:List (List UInt8)).flatten:=rfl;obtain⟨d2,he⟩:∃d2,keyH d x=d2:=⟨_,rfl⟩;rw [he] at hn hkl hkd;refine s_oneH 5 (by decide) (by kernel_rfl) (by kernel_rfl) λG S w0 hst=>?_;refine h_lit zY [(3:UInt8)] rfl rfl rfl rfl rfl rfl (λ_=>rfl) rfl (by decide) (by decide) λB=>?_;refine h_op hst (.s 3 0 32 32) trivial rfl rfl rfl rfl (runO_all rfl Tryz.underlying45 rfl rfl) ?_;refine h_op hst (.s 5 0 32 32) trivial rfl rfl rfl rfl (runO_all rfl Tryz.underlying45 rfl rfl) ?_;refine h_parts [.slice (some ⟨B,0,none⟩) 1 1,(SV.s 3 0 32 32).den G,(SV.s 5 0 32 32).den G] [[3],d,x] hst rfl rfl rfl rfl rfl rfl rfl (by decide) (by decide) (λw hw hu=>?_) λA2=>?_
  ·have h2:Rd 1 eB (some ⟨B,0,none⟩) 1 [3] w:=hu 0 _ rfl (by kernel_rfl)
   exact⟨h2.sb,sb_var (j:=3) rfl hd2 (by decide) G S w hw,sb_var (j:=5) rfl hx2 (by decide) G S w hw,trivial⟩
  refine h_call (r:=.q (eY 32 d2)) hst [.slice (some ⟨A2,0,none⟩) 3 3] rfl rfl rfl rfl own_sum256 rfl rfl (λ_=>rfl) (eY_ok hkl).1 (λw hw hu=>?_) ?_
  ·have hA:PT w (some ⟨A2,0,none⟩) [[3],d,x]:=hu 3 _ rfl (by kernel_rfl)
   have hr2:=sumP 3 rfl (by decide) hw.fact.1 hA;rw [<-hkd] at hr2;exact hr2
  refine zV hst rfl ?_;refine h_end hst ?_;refine zB rfl (zJ (hK4 _ ?_));refine zD rfl ?_;exact zX (i+1) hlt (by show _-(i+1)<_-i;omega) ⟨⟨congrArg some (congrArg SV.v (congrArg (bM .i64) (wrapI rfl (by omega) (by omega)))),rfl,rfl,rfl,rfl,rfl,trivial⟩,⟨by show findL _ 3=some ⟨3,none,45,[.agg 32 (By (dH (ks.take (i+1)))).toArray]⟩;rw [hn];rfl,rfl,rfl,rfl,trivial⟩,.refl _,λ_ h _=>h,λ_ h=>h⟩
 ·obtain rfl:ks.length=i:=by omega
  have hd2:=dH_len ks;have hvl:(valH ks).length=32:=dig_len _;have hvd:valH ks=cE bJ ([[2],be8 ks.length,dH ks]:List (List UInt8)).flatten:=rfl;have hb8:=be8_len ks.length;refine s_exit (zS (zS (k_out ?_)));refine hK _ ?_;rw [fU];generalize dH ks=d at *;obtain⟨v2,hv2⟩:∃v2,valH ks=v2:=⟨_,rfl⟩;rw [hv2] at hvl hvd;refine zM λK5 hK5=>?_;refine s_any 6 [] (by kernel_rfl) (by decide) (λ_ _ _ _ h=>by cases h) ?_;refine a_front zY 1 (by kernel_rfl) rfl rfl rfl rfl rfl rfl (λ_ h=>by cases h) ?_;refine a_front zY 2 (by kernel_rfl) rfl rfl rfl rfl rfl rfl (λ_ h=>by cases h) ?_;refine a_front zY 3 (by kernel_rfl) rfl rfl rfl rfl rfl rfl (λ_ h=>by cases h) ?_;refine a_frontO (.s 3 0 32 32) trivial 5 (by kernel_rfl) rfl rfl rfl rfl rfl (runO_all rfl Tryz.underlying45 rfl rfl) ?_;refine a_step2 0 4 (by kernel_rfl) rfl rfl (λK6 hK6=>?_) (λK6 hK6=>?_)
  ·refine l_list zY b.B.heap.size [(2:UInt8)] rfl rfl rfl rfl rfl (λ_=>rfl) rfl (by decide) (by decide) (okF_B _) (aF _) λB=>?_
   refine zJ (hK6 _ (λ_ _ _ _ h=>by cases h) ?_);refine a_step 4 (by kernel_rfl) rfl λK7 hK7=>?_;refine l_num 21 (ks.length:Int) rfl (wrapU rfl (by omega) (by omega)) ?_;refine l_call0 [.slice none ([]:List UInt8).length 0,.int .u64 (ks.length:Int)] rfl rfl rfl (λ_ _=>by go_simp) rfl rfl (λ_ _=>rfl) (wnum_S (A:=none) (c:=0) [] ks.length (by omega) (by decide)) (λ_ _ _=>Rd.nil _ _ _) λgb=>?_;rw [gJ];refine zJ (hK7 _ (λ_ _ _ _ h=>by cases h) ?_);refine a_tail (by kernel_rfl) ?_;refine l_dig zY [.v (.slice B 1 1),.v (.slice (some ⟨gb,0,none⟩) (be8 ks.length).length (be8 ks.length).length),.s 3 0 32 32] [[2],be8 ks.length,d] v2 rfl rfl rfl rfl rfl rfl rfl rfl rfl own_sum256 (λ_=>rfl) rfl (by decide) (by decide) hvl (λA w h hF hM=>?_) (λG S w h=>?_) λB2=>?_
   ·have hr2:=sumP 3 rfl (by decide) hF.2.1 h
    rw [<-hvd] at hr2;exact hr2
   ·have h1:Rd 1 eB B 1 [2] w:=rd_own 0 rfl G S w h
    exact⟨h1.sb,h.fresh.1.sb,sb_var (j:=3) rfl hd2 (by decide) G S w h,trivial⟩
   refine zB rfl (zJ (hK5 _ ?_));refine s_free 0 rfl ?_;exact zP (zR zY () rfl (by decide) rfl (congrArg (λz=>RV.q (eY 32 z)) hv2) rfl (λ_ _ _=>trivial) zU)
  ·refine l_num 21 (ks.length:Int) rfl (wrapU rfl (by omega) (by omega)) ?_
   refine l_call0 [.slice none ([]:List UInt8).length 0,.int .u64 (ks.length:Int)] rfl rfl rfl (λ_ _=>by go_simp) rfl rfl (λ_ _=>rfl) (wnum_S (A:=none) (c:=0) [] ks.length (by omega) (by decide)) (λ_ _ _=>Rd.nil _ _ _) λgb=>?_;rw [gJ];refine zJ (hK6 _ (λ_ _ _ _ h=>by cases h) ?_);refine a_step 0 (by kernel_rfl) rfl λK7 hK7=>?_;refine l_list zY b.B.heap.size [(2:UInt8)] rfl rfl rfl rfl rfl (λ_=>rfl) rfl (by decide) (by decide) (okF_B _) (aF _) λB=>?_;refine zJ (hK7 _ (λ_ _ _ _ h=>by cases h) ?_);refine a_tail (by kernel_rfl) ?_;refine l_dig zY [.v (.slice B 1 1),.v (.slice (some ⟨gb,0,none⟩) (be8 ks.length).length (be8 ks.length).length),.s 3 0 32 32] [[2],be8 ks.length,d] v2 rfl rfl rfl rfl rfl rfl rfl rfl rfl own_sum256 (λ_=>rfl) rfl (by decide) (by decide) hvl (λA w h hF hM=>?_) (λG S w h=>?_) λB2=>?_
   ·have hr2:=sumP 3 rfl (by decide) hF.2.1 h
    rw [<-hvd] at hr2;exact hr2
   ·have h1:Rd 1 eB B 1 [2] w:=rd_own 0 rfl G S w h
    exact⟨h1.sb,h.fresh.1.sb,sb_var (j:=3) rfl hd2 (by decide) G S w h,trivial⟩
   refine zB rfl (zJ (hK5 _ ?_));refine s_free 0 rfl ?_;exact zP (zR zY () rfl (by decide) rfl (congrArg (λz=>RV.q (eY 32 z)) hv2) rfl (λ_ _ _=>trivial) zU)
theorem rvalue_S{A:Option Addr}{c:Nat}(ks:List (List UInt8)):Spec 38 [.slice A ks.length c] [] (Rd 32 (eY 32) A c ks) (one (.q (eY 32 (valH ks)))):=by
 refine zQ [.c (.v (.slice A ks.length c))] 27 Tryz.func38 rfl (by rw [Tryz.ntmps38];rfl) (one_ok trivial) λb=>?_;refine s_pure ((∀x∈ks,x.length=32)/\ks.length<=9223372036854775807) (λw h _=>⟨λx hx=>eY_len (h.2.2.2.1 x hx).1,b8 h.1 h.2.1⟩) λ⟨h32,hm⟩=>?_;refine zA rfl (zA rfl ?_);refine zM λK hK=>?_;refine zA rfl (zN ?_)
 let F:Nat->Env:=λi=>⟨[(9,.v (.int .i64 (i:Int))),(8,.v (.int .i64 (ks.length:Int))),(7,.v (.slice A ks.length c)),(0,.v (.slice A ks.length c)),(3,.a 3 0),(2,.a 2 0)],[⟨3,none,45,[.agg 32 (By (dH (ks.take i))).toArray]⟩,⟨2,none,45,[.agg 32 (By zH).toArray]⟩],[],λw=>Rd 32 (eY 32) A c ks w,λ_=>True⟩
 refine c_weak (e':=F 0) ⟨zE rfl, zL rfl rfl, .refl _,λ_ h _=>h, zU⟩ (s_loop (λi=>ks.length-i) F (λi=>i<=ks.length) ?_ 0 (aI _))
 intro i hi
 refine zA rfl (zM λK3 hK3=>?_);refine zW ((i:Int)<(ks.length:Int)) rfl (λhlt=>?_) (λhge=>?_)
 ·have hlt:i<ks.length:=by omega
  obtain⟨x,hx⟩:∃x,ks[i]?=some x:=⟨_,aK hlt⟩;have hx2:=h32 x (aR hx);have hd2:=dH_len (ks.take i);have hn:=dH_next hx;refine zO (hK3 _ (zM λK4 hK4=>?_));refine zN (zC rfl λK5 hK5=>?_);refine l_elem zY rfl rfl rfl i rfl hx rfl rfl (rd_fact λ_ h _=>h) ?_;refine zB rfl (zJ (hK5 _ ?_));generalize dH (ks.take i)=d at *;have hkl:(keyH d x).length=32:=dig_len _;have hkd:keyH d x=cE bJ ([[3],d,x]:List (List UInt8)).flatten:=rfl;obtain⟨d2,he⟩:∃d2,keyH d x=d2:=⟨_,rfl⟩;rw [he] at hn hkl hkd;refine s_oneH 5 (by decide) (by kernel_rfl) (by kernel_rfl) λG S w0 hst=>?_;refine h_lit zY [(3:UInt8)] rfl rfl rfl rfl rfl rfl (λ_=>rfl) rfl (by decide) (by decide) λB=>?_;refine h_op hst (.s 3 0 32 32) trivial rfl rfl rfl rfl (runO_all rfl Tryz.underlying45 rfl rfl) ?_;refine h_op hst (.s 5 0 32 32) trivial rfl rfl rfl rfl (runO_all rfl Tryz.underlying45 rfl rfl) ?_;refine h_parts [.slice (some ⟨B,0,none⟩) 1 1,(SV.s 3 0 32 32).den G,(SV.s 5 0 32 32).den G] [[3],d,x] hst rfl rfl rfl rfl rfl rfl rfl (by decide) (by decide) (λw hw hu=>?_) λA2=>?_
  ·have h2:Rd 1 eB (some ⟨B,0,none⟩) 1 [3] w:=hu 0 _ rfl (by kernel_rfl)
   exact⟨h2.sb,sb_var (j:=3) rfl hd2 (by decide) G S w hw,sb_var (j:=5) rfl hx2 (by decide) G S w hw,trivial⟩
  refine h_call (r:=.q (eY 32 d2)) hst [.slice (some ⟨A2,0,none⟩) 3 3] rfl rfl rfl rfl (λ_ _=>by go_simp) rfl rfl (λ_=>rfl) (eY_ok hkl).1 (λw hw hu=>?_) ?_
  ·have hA:PT w (some ⟨A2,0,none⟩) [[3],d,x]:=hu 3 _ rfl (by kernel_rfl)
   have hr2:=sumR 3 rfl (by decide) (by simp [hd2,hx2]) hA;rw [<-hkd] at hr2;exact hr2
  refine zV hst rfl ?_;refine h_end hst ?_;refine zB rfl (zJ (hK4 _ ?_));refine zD rfl ?_;exact zX (i+1) hlt (by show _-(i+1)<_-i;omega) ⟨⟨congrArg some (congrArg SV.v (congrArg (bM .i64) (wrapI rfl (by omega) (by omega)))),rfl,rfl,rfl,rfl,rfl,trivial⟩,⟨by show findL _ 3=some ⟨3,none,45,[.agg 32 (By (dH (ks.take (i+1)))).toArray]⟩;rw [hn];rfl,rfl,rfl,rfl,trivial⟩,.refl _,λ_ h _=>h,λ_ h=>h⟩
 ·obtain rfl:ks.length=i:=by omega
  have hd2:=dH_len ks;have hvl:(valH ks).length=32:=dig_len _;have hvd:valH ks=cE bJ ([[2],be8 ks.length,dH ks]:List (List UInt8)).flatten:=rfl;have hb8:=be8_len ks.length;refine s_exit (zS (zS (k_out ?_)));refine hK _ ?_;rw [fU];generalize dH ks=d at *;obtain⟨v2,hv2⟩:∃v2,valH ks=v2:=⟨_,rfl⟩;rw [hv2] at hvl hvd;refine zM λK5 hK5=>?_;refine s_any 6 [] (by kernel_rfl) (by decide) (λ_ _ _ _ h=>by cases h) ?_;refine a_front zY 1 (by kernel_rfl) rfl rfl rfl rfl rfl rfl (λ_ h=>by cases h) ?_;refine a_front zY 2 (by kernel_rfl) rfl rfl rfl rfl rfl rfl (λ_ h=>by cases h) ?_;refine a_front zY 3 (by kernel_rfl) rfl rfl rfl rfl rfl rfl (λ_ h=>by cases h) ?_;refine a_frontO (.s 3 0 32 32) trivial 5 (by kernel_rfl) rfl rfl rfl rfl rfl (runO_all rfl Tryz.underlying45 rfl rfl) ?_;refine a_step2 0 4 (by kernel_rfl) rfl rfl (λK6 hK6=>?_) (λK6 hK6=>?_)
  ·refine l_list zY b.B.heap.size [(2:UInt8)] rfl rfl rfl rfl rfl (λ_=>rfl) rfl (by decide) (by decide) (okF_B _) (aF _) λB=>?_
   refine zJ (hK6 _ (λ_ _ _ _ h=>by cases h) ?_);refine a_step 4 (by kernel_rfl) rfl λK7 hK7=>?_;refine l_num 22 (ks.length:Int) rfl (wrapU rfl (by omega) (by omega)) ?_;refine l_call0 [.int .u64 (ks.length:Int)] rfl rfl rfl (λ_ _=>by go_simp) rfl rfl (λ_ _=>rfl) (rfnum_S ks.length (by omega)) (λ_ _ _=>trivial) λgb=>?_;refine zJ (hK7 _ (λ_ _ _ _ h=>by cases h) ?_);refine a_tail (by kernel_rfl) ?_;refine l_dig zY [.v (.slice B 1 1),.v (.slice (some ⟨gb,0,none⟩) (be8 ks.length).length (be8 ks.length).length),.s 3 0 32 32] [[2],be8 ks.length,d] v2 rfl rfl rfl rfl rfl rfl rfl rfl rfl (λ_ _=>by go_simp) (λ_=>rfl) rfl (by decide) (by decide) hvl (λA w h hF hM=>?_) (λG S w h=>?_) λB2=>?_
   ·have hr2:=sumR 3 rfl (by decide) (by simp [hd2,hb8]) h
    rw [<-hvd] at hr2;exact hr2
   ·have h1:Rd 1 eB B 1 [2] w:=rd_own 0 rfl G S w h
    exact⟨h1.sb,h.fresh.1.sb,sb_var (j:=3) rfl hd2 (by decide) G S w h,trivial⟩
   refine zB rfl (zJ (hK5 _ ?_));refine s_free 0 rfl ?_;exact zP (zR zY () rfl (by decide) rfl (congrArg (λz=>RV.q (eY 32 z)) hv2) rfl (λ_ _ _=>trivial) zU)
  ·refine l_num 22 (ks.length:Int) rfl (wrapU rfl (by omega) (by omega)) ?_
   refine l_call0 [.int .u64 (ks.length:Int)] rfl rfl rfl (λ_ _=>by go_simp) rfl rfl (λ_ _=>rfl) (rfnum_S ks.length (by omega)) (λ_ _ _=>trivial) λgb=>?_;refine zJ (hK6 _ (λ_ _ _ _ h=>by cases h) ?_);refine a_step 0 (by kernel_rfl) rfl λK7 hK7=>?_;refine l_list zY b.B.heap.size [(2:UInt8)] rfl rfl rfl rfl rfl (λ_=>rfl) rfl (by decide) (by decide) (okF_B _) (aF _) λB=>?_;refine zJ (hK7 _ (λ_ _ _ _ h=>by cases h) ?_);refine a_tail (by kernel_rfl) ?_;refine l_dig zY [.v (.slice B 1 1),.v (.slice (some ⟨gb,0,none⟩) (be8 ks.length).length (be8 ks.length).length),.s 3 0 32 32] [[2],be8 ks.length,d] v2 rfl rfl rfl rfl rfl rfl rfl rfl rfl (λ_ _=>by go_simp) (λ_=>rfl) rfl (by decide) (by decide) hvl (λA w h hF hM=>?_) (λG S w h=>?_) λB2=>?_
   ·have hr2:=sumR 3 rfl (by decide) (by simp [hd2,hb8]) h
    rw [<-hvd] at hr2;exact hr2
   ·have h1:Rd 1 eB B 1 [2] w:=rd_own 0 rfl G S w h
    exact⟨h1.sb,h.fresh.1.sb,sb_var (j:=3) rfl hd2 (by decide) G S w h,trivial⟩
   refine zB rfl (zJ (hK5 _ ?_));refine s_free 0 rfl ?_;exact zP (zR zY () rfl (by decide) rfl (congrArg (λz=>RV.q (eY 32 z)) hv2) rfl (λ_ _ _=>trivial) zU)
section
variable{α:Type}{fe:α->SQ}{T:List TyR}{b:Base}{ops:Array Oper}{Q:Exit->Act->World->Prop}{N:Nat}{E:SE}{L:List LV}{R:List Res}{F M:World->Prop}{o:Oper}{rest:List Oper}{k e sz bs:Nat}{t tn:TypeId}{x y:Operand}{K kn:IntKind}
theorem l_growZ(hT:OkT Tryz.prog T)(lo n:Nat)(fe:α->SQ)(hg:o.guard=none)(hd:o.dst=some k)(hk:aQ k N=true)(ho:o.op = .call { callee:=.builtin .append,args:=#[x,y],argTypes:=#[t,tn] })(hs:slS T t=some (e,sz,bs))(htn:Tryz.prog.underlying tn=some (.int kn))
 (hx:evS E x=some (.v (.slice none 0 0)))(hy:evS E y=some (.v (.int K (n:Int))))(h0:0<n)(hsz:0<sz)(hb:n*bs<=281474976710656)(hm:n<=9223372036854775807)(hlo:lo<=b.B.heap.size)
 (hc:∀g c,n<=c->lS Tryz.prog b ops Q N rest ⟨(k,.v (.slice (some ⟨g,0,none⟩) n c))::E,L,OwnS lo e sz fe (some ⟨g,0,none⟩) c []::R,F,M⟩):lS Tryz.prog b ops Q N (o::rest) ⟨E,L,R,F,M⟩:=λa w ⟨G,S,h1,h2,h3⟩=>by
 obtain⟨ht,ie,z,hi,hz,hsz2,hbs,hzs,_⟩:=slS_ok hT hs;have e1:=h1.eval (evS_ok hx);have e2:=h1.eval (evS_ok hy);have hr:=Lib.run_append_nil_zeros (P:=Tryz.prog) w t tn o.type e ie z K kn ht htn hi hz n h0 (by omega) (by omega) (by rw [hbs];exact hb)
 refine wpl_go (v:=.slice (some ⟨w.heap.size,0,none⟩) n (grownCap w n 0 e)) (oneS hg) (by
  unfold execOp
  simp only [ho,resolve,invoke,builtin,aG,aH,aD,List.map_toArray,List.map_cons,List.map_nil,e1,e2]
  show((Builtin.append_ #[t,tn] o.type #[.slice none 0 0,.int K (n:Int)]).run Tryz.prog w).andThen _=_
  rw [hr]
  rfl) ?_
 rw [hd];have hge:=grownCap_ge w n 0 e;have hle:=grownCap_le_maxLen w n 0 e (by unfold maxLen;omega);generalize grownCap w n 0 e=c at *
 have hcs:(iO z.cells n++iO z.cells (c-n)).size=c*sz:=by
  simp only [Array.size_append,size_zeroCells,hzs,<-Nat.add_mul];rw [show n+(c-n)=c by omega]
 generalize iO z.cells n++iO z.cells (c-n)=cs at *
 have hown:(OwnS lo e sz fe (some ⟨w.heap.size,0,none⟩) c []).holds (w.drew.alloc (.cells cs e)) λj=>j=w.heap.size:=by
  have hb:Blk (w.drew.alloc (.cells cs e)) w.heap.size e cs:=Blk.new w.drew _ _;have hlo2:lo<=w.heap.size:=b8 hlo h3.chg.size
  have h5:cs.toList.take (0*sz)=[]:=by rw [Nat.zero_mul];rfl
  have h6:(flatF fe ([]:List α)).length=0*sz:=by rw [Nat.zero_mul];rfl
  exact⟨λ_ h=>(by cases h),⟨h6,.inr ⟨w.heap.size,c,cs,rfl,hlo2,hb,aI _,hle,hcs,h5⟩⟩,λj=>⟨λh=>(by rw [h];rfl),λh=>(cR h).symm⟩⟩
 obtain⟨S',h4⟩:=h3.gain (((Below.refl w.heap.size w).drew).alloc (aF _) _) hown (λj hj=>Nat.le_of_eq hj.symm);exact hc _ _ hge _ _ ⟨G,S',h1.put hk _,h2.cons trivial,h4⟩
end
theorem run_cap{N:Nat}{E:SE}{o:Oper}{x:Operand}{t:TypeId}{A:Option Addr}{n c:Nat}(ho:o.op = .call { callee:=.builtin .cap,args:=#[x],argTypes:=#[t] })(ht:∃e,Tryz.prog.underlying t=some (.slice e))(hx:evS E x=some (.v (.slice A n c))) :
  ∀(G:Nat->Nat) (a:Act) (w:World),Fr N (denE G E) a->(execOp a.eval o).run Tryz.prog w = .ok (.value ((SV.v (.int .i64 (c:Int))).den G)) w:=λG a w ha=>by
 have h1:a.eval x = .slice A n c:=ha.eval (evS_ok hx);obtain⟨e,ht⟩:=ht
 unfold execOp
 simp only [ho];generalize a.eval=ρ at *
 show _=tN (tK (.int .i64 (c:Int))) w
 simp [resolve,invoke,builtin,h1,aG,run_underlying ht,Builtin.cap_,goInt]
abbrev KX:=Option Addr×Nat
theorem grow_S(n:Nat)(h0:0<n)(hn:n<=1000000):Spec 74 [.slice none 0 0,.int .i64 (n:Int)] [] (λ_=>True) { ret:=λx:KX=>.v (.slice x.1 0 x.2),own:=λx=>[OwnS 0 45 32 (eY 32) x.1 x.2 []] }:=by
 refine zQ [.c (.v (.slice none 0 0)),.c (.v (.int .i64 (n:Int)))] 27 Tryz.func74 rfl (by rw [Tryz.ntmps74];rfl) (two_ok trivial trivial) λb=>?_;refine zA rfl (zM λK1 hK1=>?_);refine zA rfl ?_;refine zW ((n:Int)<0) rfl (λh=>absurd h (by omega)) (λ_=>?_);refine zO (hK1 _ (zM λK2 hK2=>?_));refine zC rfl λK3 hK3=>?_;refine l_op (.v (.int .i64 ((0:Nat):Int))) trivial rfl rfl rfl (run_cap rfl ⟨_,Tryz.underlying43⟩ rfl) ?_;refine zB rfl ?_;refine l_num 1 (n:Int) rfl (wrapI (by show(n:Int)-IntKind.i64.wrap (0-0)=n;rw [wrapI (r:=0) (by decide) (by decide) (by decide)];omega) (by omega) (by omega)) ?_;refine zJ (hK3 _ (zA rfl ?_));refine zW ((n:Int)>0) rfl (λ_=>?_) (λh=>absurd h (by omega));refine s_lit (zB rfl ?_);refine l_op (.v (.int .i64 ((0:Nat):Int))) trivial rfl rfl rfl (run_cap rfl ⟨_,Tryz.underlying43⟩ rfl) ?_;refine l_op (.v (.slice none 0 0)) trivial rfl rfl rfl (run_cutHi (A:=none) (n:=0) (c:=0) (j:=0) (sz:=32) rfl (aF _) (λ_=>rfl) rfl Tryz.underlying43 rfl rfl) ?_;refine zB rfl ?_;refine l_growZ zY 0 n (eY 32) rfl rfl rfl rfl rfl Tryz.underlying3 rfl rfl h0 (by decide) (by show n*32<=_;omega) (by omega) (aI _) λg c hc=>?_;refine zB rfl ?_;refine l_op (.v (.slice (some ⟨g,0,none⟩) 0 c)) trivial rfl rfl rfl (run_cutHi (A:=some ⟨g,0,none⟩) (n:=n) (c:=c) (j:=0) (sz:=32) rfl (aI _) (λh=>by cases h) rfl Tryz.underlying43 rfl rfl) ?_;refine zB rfl (zJ (hK2 _ ?_));refine zA rfl ?_;exact zP (zR zY (some ⟨g,0,none⟩,c) rfl (by decide) rfl rfl rfl (λ_ _ _=>trivial) zU)
structure HSeg where
  A:Option Addr
  c:Nat
  l:List (List UInt8)
def eHs(s:HSeg):SQ:=.c (.v (.slice s.A s.l.length s.c))
def HSeg.rd(s:HSeg)(w:World):Prop:=Rd 32 (eY 32) s.A s.c s.l w
instance{s:HSeg}:Pst s.rd:=⟨λ_ _ h hb=>h.later hb⟩
theorem eHs_ok(s:HSeg):OkP (eHs s).parts1/\(eHs s).cl.length=1:=⟨λp hp=>by
 simp only [eHs,SQ.parts1,aE] at hp;subst hp
 exact⟨trivial,rfl,rfl⟩,rfl⟩
abbrev flH(ss:List HSeg):List (List UInt8):=(ss.map HSeg.l).flatten
theorem flH_next{ss:List HSeg}{i:Nat}{s:HSeg}(h:ss[i]?=some s):flH (ss.take (i+1))=flH (ss.take i)++s.l:=by
 unfold flH
 rw [List.take_add_one,h]
 simp
theorem flH_le(ss:List HSeg)(i:Nat):(flH (ss.take i)).length<=(flH ss).length:=by
 have e:flH ss=flH (ss.take i)++flH (ss.drop i):=by
  unfold flH
  rw [<-List.flatten_append,<-fC,List.take_append_drop]
 rw [e,aB]
 omega
theorem concat_S{A:Option Addr}{c:Nat}(ss:List HSeg)(h0:0<(flH ss).length)(ht:(flH ss).length<=1000000):Spec 50 [.slice A ss.length c] [] (λw=>Rd 1 eHs A c ss w/\∀s∈ss,s.rd w)
  { ret:=λx:KX=>.v (.slice x.1 (flH ss).length x.2),own:=λx=>[OwnS 0 45 32 (eY 32) x.1 x.2 (flH ss)] }:=by
 refine zQ [.c (.v (.slice A ss.length c))] 36 Tryz.func50 rfl (by rw [Tryz.ntmps50];rfl) (one_ok trivial) λb=>?_;refine s_pure (ss.length<=9223372036854775807) (λw h _=>b8 h.1.1 h.1.2.1) λhm=>?_;refine zA rfl (zA rfl ?_);refine zM λK1 hK1=>?_;refine zA rfl (zN ?_)
 let F:Nat->Env:=λi=>⟨[(11,.v (.int .i64 (i:Int))),(10,.v (.int .i64 (ss.length:Int))),(9,.v (.slice A ss.length c)),(0,.v (.slice A ss.length c)),(3,.v (.int .i64 ((flH (ss.take i)).length:Int)))],[],[],λw=>Rd 1 eHs A c ss w/\∀s∈ss,s.rd w,λ_=>True⟩
 refine c_weak (e':=F 0) ⟨zE rfl, trivial, .refl _,λ_ h _=>h, zU⟩ (s_loop (λi=>ss.length-i) F (λi=>i<=ss.length) ?_ 0 (aI _))
 ·intro i hi
  refine zA rfl (zM λK3 hK3=>?_);refine zW ((i:Int)<(ss.length:Int)) rfl (λhlt=>?_) (λhge=>?_)
  ·have hlt:i<ss.length:=by omega
   obtain⟨s,hs⟩:∃s,ss[i]?=some s:=⟨_,aK hlt⟩;have hn:=flH_next hs;have hle:=flH_le ss (i+1);have hnl:=congrArg List.length hn;rw [aB] at hnl;refine zO (hK3 _ (zM λK4 hK4=>?_));refine zN (zC rfl λK5 hK5=>?_);refine l_elem zY rfl rfl rfl i rfl hs rfl rfl (rd_fact λ_ h _=>h.1) ?_;refine zB rfl (zJ (hK5 _ ?_));refine zC rfl λK6 hK6=>?_;refine l_num 3 ((flH (ss.take (i+1))).length:Int) rfl (wrapI (by omega) (by omega) (by omega)) ?_;refine zJ (hK6 _ (zA rfl ?_));refine zW (((flH (ss.take (i+1))).length:Int)<0) rfl (λh=>absurd h (by omega)) (λ_=>?_);refine zO (hK4 _ ?_);refine zD rfl ?_;exact zX (i+1) hlt (by show _-(i+1)<_-i;omega) ⟨⟨congrArg some (congrArg SV.v (congrArg (bM .i64) (wrapI rfl (by omega) (by omega)))),rfl,rfl,rfl,rfl,trivial⟩,trivial,.refl _,λ_ h _=>h,λ_ h=>h⟩
  ·obtain rfl:ss.length=i:=by omega
   refine s_exit (zS (zS (k_out ?_)));refine hK1 _ ?_;rw [fU];refine zC rfl λK5 hK5=>?_;refine l_call0 [.slice none 0 0,.int .i64 ((flH ss).length:Int)] rfl rfl rfl (λ_ _=>by go_simp) rfl rfl (λ_ _=>rfl) (grow_S (flH ss).length h0 ht) (λ_ _ _=>trivial) λ⟨B,d⟩=>?_;refine l_R [OwnS 0 45 32 (eY 32) B d []] rfl ?_;refine zB rfl (zJ (hK5 _ ?_));refine zM λK7 hK7=>?_;refine zA rfl (zN ?_)
   let F2:Nat×KX->Env:=λ⟨i,B,d⟩=>⟨[(27,.v (.int .i64 (i:Int))),(26,.v (.int .i64 (ss.length:Int))),(25,.v (.slice A ss.length c)),(6,.v (.slice B (flH (ss.take i)).length d))],[],[OwnS 0 45 32 (eY 32) B d (flH (ss.take i))],λw=>Rd 1 eHs A c ss w/\∀s∈ss,s.rd w,λ_=>True⟩
   refine c_weak (e':=F2 (0,B,d)) ⟨zE rfl, trivial, .refl _,λ_ h _=>h.2, zU⟩ (s_loop (λx=>ss.length-x.1) F2 (λx=>x.1<=ss.length) ?_ (0,B,d) (aI _))
   rintro⟨i,B,d⟩ hi
   dsimp only at hi
   refine zA rfl (zM λK3 hK3=>?_);refine zW ((i:Int)<(ss.length:Int)) rfl (λhlt=>?_) (λhge=>?_)
   ·have hlt:i<ss.length:=by omega
    obtain⟨s,hs⟩:∃s,ss[i]?=some s:=⟨_,aK hlt⟩;have hn:=flH_next hs;have hle:=flH_le ss (i+1);have hnl:=congrArg List.length hn;rw [aB] at hnl;refine zO (hK3 _ (zM λK4 hK4=>?_));refine zN (zC rfl λK5 hK5=>?_);refine l_elem zY rfl rfl rfl i rfl hs rfl rfl (rd_fact λ_ h _=>h.1) ?_;refine zB rfl (zJ (hK5 _ ?_));refine s_lit (zB rfl ?_);refine l_appY zY 0 s.l (fe:=eY 32) rfl rfl rfl rfl rfl rfl rfl rfl rfl (rd_fact λw h _=>h.2 s (aR hs)) (by decide) (by show(_+_)*32<=_;omega) (by omega) (aI _) λB' d'=>?_;rw [<-hn];refine zB rfl (zJ (hK4 _ ?_));refine zD rfl ?_;exact zX (i+1,B',d') hlt (by show _-(i+1)<_-i;omega) ⟨⟨congrArg some (congrArg SV.v (congrArg (bM .i64) (wrapI rfl (by omega) (by omega)))),rfl,rfl,rfl,trivial⟩,trivial,.refl _,λ_ h _=>h,λ_ h=>h⟩
   ·obtain rfl:ss.length=i:=by omega
    refine s_exit (zS (zS (k_out ?_)));refine hK7 _ ?_;rw [fU];refine zA rfl ?_;exact zP (zR zY (B,d) rfl (by decide) rfl rfl rfl (λ_ _ _=>trivial) zU)
noncomputable def nxE(ks:List (List UInt8))(u:UV):Nat:=if signB u=true then(if u.ver=(ks.length:Int)+1 then 0 else 111) else 110
noncomputable def nxK(ks:List (List UInt8))(u:UV):List (List UInt8):=if nxE ks u=0 then ks++[u.key] else []
abbrev nxQ(l:List (List UInt8))(e:Nat):Post KX:={ ret:=λx=>.t [.c (.v (.slice x.1 l.length x.2)),.c (.v (.int .i64 (e:Int)))],p:=λx=>Rd 32 (eY 32) x.1 x.2 l }
noncomputable abbrev nxP(ks:List (List UInt8))(u:UV):Post KX:=nxQ (nxK ks u) (nxE ks u)
theorem hnext_S{A:Option Addr}{c:Nat}(ks:List (List UInt8)){u:UV}(hu:u.Ok)(hl:ks.length<=1000):Spec 28 [.slice A ks.length c,(eU u).den] [] (λw=>Ta w/\Rd 32 (eY 32) A c ks w) (nxP ks u):=by
 refine zQ [.c (.v (.slice A ks.length c)),eU u] 21 Tryz.func28 rfl (by rw [Tryz.ntmps28];rfl) (two_ok trivial hu.parts_ok) λb=>?_;refine zA rfl (zM λK1 hK1=>?_);refine zC rfl λK2 hK2=>?_;refine l_call0 [(eU u).den] rfl rfl rfl (λ_ _=>by go_simp) rfl rfl (λ_ _=>rfl) (hsigned_S hu) (λ_ h _=>h.1) λ_=>?_;refine zB rfl (zJ (hK2 _ ?_));obtain⟨sb,hsb⟩:∃sb,signB u=sb:=⟨_,rfl⟩;rw [hsb];refine s_if (!sb) rfl (λh=>?_) (λh=>?_)
 ·have h1:nxE ks u=110:=by unfold nxE;rw [if_neg (by rw [hsb];simpa using h)]
  have h2:nxK ks u=[]:=by unfold nxK;rw [h1];rfl
  refine zA rfl ?_;exact zP (zR zY (none,0) rfl (by decide) rfl (by show RV.t [.c (.v (.slice none (nxK ks u).length 0)),.c (.v (.int .i64 (nxE ks u:Int)))]=_;rw [h1,h2];rfl) rfl (λw _ _=>by show Rd 32 (eY 32) none 0 (nxK ks u) w;rw [h2];exact Rd.nil _ _ _) zU)
 have hst:sb=true:=by simpa using h
 refine zO (hK1 _ (zM λK3 hK3=>?_));refine zC rfl λK4 hK4=>?_;refine zJ (hK4 _ ?_);have hw:IntKind.i64.wrap ((ks.length:Int)+1)=(ks.length:Int)+1:=wrapI rfl (by omega) (by omega);refine zW (u.ver≠IntKind.i64.wrap ((ks.length:Int)+1)) rfl (λh=>?_) (λh=>?_)
 ·have h1:nxE ks u=111:=by unfold nxE;rw [if_pos (by rw [hsb];exact hst),if_neg (by rw [hw] at h;exact h)]
  have h2:nxK ks u=[]:=by unfold nxK;rw [h1];rfl
  refine zA rfl ?_;exact zP (zR zY (none,0) rfl (by decide) rfl (by show RV.t [.c (.v (.slice none (nxK ks u).length 0)),.c (.v (.int .i64 (nxE ks u:Int)))]=_;rw [h1,h2];rfl) rfl (λw _ _=>by show Rd 32 (eY 32) none 0 (nxK ks u) w;rw [h2];exact Rd.nil _ _ _) zU)
 have h1:nxE ks u=0:=by unfold nxE;rw [if_pos (by rw [hsb];exact hst),if_pos (by rw [hw] at h;exact Decidable.of_not_not h)]
 have h2:nxK ks u=ks++[u.key]:=by unfold nxK;rw [h1];rfl
 refine zO (hK3 _ (zC rfl λK5 hK5=>?_));refine l_list zY 0 [u.key] (fe:=eY 32) rfl rfl rfl rfl rfl (λ_=>rfl) rfl (by decide) (by decide) (okF_Y λl hl=>by rw [aE.1 hl];exact hu.key) (aI _) λB=>?_;refine l_free 0 rfl ?_;refine l_list zY 0 [⟨A,c,ks⟩,⟨B,1,[u.key]⟩] (fe:=eHs) rfl rfl rfl rfl rfl (λ_=>rfl) rfl (by decide) (by decide) (λs _=>eHs_ok s) (aI _) λD=>?_;refine l_free 0 rfl ?_
 have e0:flH [⟨A,c,ks⟩,⟨B,1,[u.key]⟩]=nxK ks u:=by rw [h2];simp [flH]
 have hcc:=concat_S (A:=D) (c:=2) [⟨A,c,ks⟩,⟨B,1,[u.key]⟩] (by rw [e0,h2];simp) (by rw [e0,h2];simp;omega);rw [e0] at hcc
 refine l_call0 [.slice D 2 2] rfl rfl rfl (λ_ _=>by go_simp) rfl rfl (λ_ _=>rfl) hcc (λw h _=>⟨h.1,λs hs=>by
  rcases aL.1 hs with rfl|hs
  ·exact h.2.2.2.2
  ·rw [aE.1 hs]
   exact h.2.1⟩) λ⟨X,d⟩=>?_
 refine l_R [OwnS 0 45 32 (eY 32) X d (nxK ks u)] rfl ?_;refine l_free 0 rfl ?_;refine zB rfl (zJ (hK5 _ ?_));exact zP (zR zY (X,d) rfl (by decide) rfl (by show RV.t [.c (.v (.slice X (nxK ks u).length d)),.c (.v (.int .i64 (nxE ks u:Int)))]=_;rw [h1];rfl) rfl (λw h _=>h.1) zU)
theorem hnext_Q{A:Option Addr}{c:Nat}{ks l:List (List UInt8)}{u:UV}{e:Nat}(he:nxE ks u=e)(hk:nxK ks u=l)(hu:u.Ok)(hl:ks.length<=1000):Spec 28 [.slice A ks.length c,(eU u).den] [] (λw=>Ta w/\Rd 32 (eY 32) A c ks w) (nxQ l e):=by
 subst he hk;exact hnext_S ks hu hl
theorem rsame11_S{A A2:Option Addr}{c c2:Nat}(ks:List (List UInt8)):Spec 15 [.slice A ks.length c,.slice A2 ks.length c2] [] (λw=>Rd 32 (eY 32) A c ks w/\Rd 32 (eY 32) A2 c2 ks w) (one (.v (.bool true))):=by
 refine zQ [.c (.v (.slice A ks.length c)),.c (.v (.slice A2 ks.length c2))] 26 Tryz.func15 rfl (by rw [Tryz.ntmps15];rfl) (two_ok trivial trivial) λb=>?_;refine s_pure ((∀x∈ks,x.length=32)/\ks.length<=9223372036854775807) (λw h _=>⟨λx hx=>eY_len (h.1.2.2.2.1 x hx).1,b8 h.1.1 h.1.2.1⟩) λ⟨h32,hm⟩=>?_;refine zA rfl (zM λK1 hK1=>?_);refine zC rfl λK2 hK2=>?_;refine l_is 10 false rfl (by simp) ?_;refine zJ (hK2 _ ?_);refine s_no rfl ?_;refine zO (hK1 _ (zM λK3 hK3=>?_));refine zA rfl (zN ?_)
 let F:Nat->Env:=λi=>⟨[(13,.v (.int .i64 (i:Int))),(12,.v (.int .i64 (ks.length:Int))),(0,.v (.slice A ks.length c)),(1,.v (.slice A2 ks.length c2))],[],[],λw=>Rd 32 (eY 32) A c ks w/\Rd 32 (eY 32) A2 c2 ks w,λ_=>True⟩
 refine c_weak (e':=F 0) ⟨zE rfl, trivial, .refl _,λ_ h _=>h, zU⟩ (s_loop (λi=>ks.length-i) F (λi=>i<=ks.length) ?_ 0 (aI _))
 intro i hi
 refine zA rfl (zM λK4 hK4=>?_);refine zW ((i:Int)<(ks.length:Int)) rfl (λhlt=>?_) (λhge=>?_)
 ·have hlt:i<ks.length:=by omega
  obtain⟨x,hx⟩:∃x,ks[i]?=some x:=⟨_,aK hlt⟩;have hx2:=h32 x (aR hx);refine zO (hK4 _ (zM λK5 hK5=>?_));refine zN (zA rfl ?_);refine s_regD 9 (by decide) (by kernel_rfl) (by kernel_rfl) λK6 hK6 G S w0 hst=>?_;refine g_autoS zY hst rfl ?_;refine g_elem zY hst rfl rfl rfl i rfl hx rfl rfl (rd_fact λw h _=>h.1) ?_;refine g_autoS zY hst rfl ?_;refine g_elem zY hst rfl rfl rfl i rfl hx rfl rfl (rd_fact λw h _=>h.2) ?_;refine g_opS (.b (!decide (x=x))) trivial rfl rfl rfl (run_neqY rfl rfl rfl Tryz.underlying45 (by kernel_rfl) hx2 hx2) ?_;refine g_endS hst ?_;refine l_is 24 false rfl (by simp) ?_;refine zJ (hK6 _ ?_);refine s_no rfl ?_;refine zO (hK5 _ ?_);refine zD rfl ?_;exact zX (i+1) hlt (by show _-(i+1)<_-i;omega) ⟨⟨congrArg some (congrArg SV.v (congrArg (bM .i64) (wrapI rfl (by omega) (by omega)))),rfl,rfl,rfl,trivial⟩,trivial,.refl _,λ_ h _=>h,λ_ h=>h⟩
 ·refine s_exit (zS (zS (k_out ?_)))
  refine hK3 _ ?_;refine zA rfl ?_;exact zP (zR zY () rfl (by decide) rfl rfl rfl (λ_ _ _=>trivial) zU)
end Go.Proofs.YtlhlkofpjhpaoaaGreatDoor
namespace Go.Proofs.YtlhlkofpjhpaoaaGreatDoor
open Go.RowKit Go.IntWalk
structure MapT(κ ν:Type) where
  t:TypeId
  kt:TypeId
  vt:TypeId
  kv:κ->SQ
  vv:ν->SQ
structure MapT.Ok{κ ν:Type}(T:MapT κ ν)(ok:κ->Prop):Prop where
  und:Tryz.prog.underlying T.t=some (.map T.kt T.vt)
  keyed:Maps.Keyed Tryz.prog T.kt
  key:∀k,ok k->∃l,keyOf Tryz.prog T.kt (T.kv k).den=some l
  inj:∀k k',(T.kv k).den=(T.kv k').den->k=k'
def MapT.K{κ ν:Type}(T:MapT κ ν)(k:κ):Value:=(T.kv k).den
def MapT.V{κ ν:Type}(T:MapT κ ν)(v:ν):Value:=(T.vv v).den
section
variable{κ ν:Type}{T:MapT κ ν}{ok:κ->Prop}
structure MapH(T:MapT κ ν)(ok:κ->Prop)(es:Array MapEntry)(clock n:Nat)(f:κ->Option ν):Prop where
  size:es.size=n
  of:∀e∈es.toList,∃k v,ok k/\f k=some v/\e.key=T.K k/\e.val=T.V v
  at_:∀k v,f k=some v->∃e∈es.toList,e.key=T.K k/\e.val=T.V v
  one:∀(i j:Nat) (e g:MapEntry),es[i]?=some e->es[j]?=some g->e.key=g.key->i=j
  born:∀e∈es.toList,e.born<clock
  stamp:(es.toList.map (·.born)).Nodup
def MapG(T:MapT κ ν)(ok:κ->Prop)(m n:Nat)(f:κ->Option ν):Res where
  holds w S:=(∃es clock,w.heap[m]?=some (.map es clock)/\MapH T ok es clock n f)/\∀k,S k↔k=m
  keep:=λ⟨⟨es,c,h1,h2⟩,h3⟩ hk=>⟨⟨es,c,(hk m ((h3 m).2 rfl)).trans h1,h2⟩,h3⟩
  lt:=λ⟨⟨es,c,h1,_⟩,h3⟩ k hk=>by rw [(h3 k).1 hk];exact(a7.1 h1).1
def MapA(T:MapT κ ν)(ok:κ->Prop)(m n:Nat)(f:κ->Option ν)(w:World):Prop:=∃es clock,w.heap[m]?=some (.map es clock)/\MapH T ok es clock n f
instance{m n:Nat}{f:κ->Option ν}:Pst (MapA T ok m n f):=⟨λ_ _ ⟨es,c,h1,h2⟩ hb=>⟨es,c,(hb.block m (a7.1 h1).1).trans h1,h2⟩⟩
theorem map_own{m n:Nat}{f:κ->Option ν}{L:List LV}{R:List Res}{F M:World->Prop}(i:Nat)(hi:R[i]?=some (MapG T ok m n f)):∀G S w,View G S L R F M w->MapA T ok m n f w:=λ_ _ _ h=>by
 obtain⟨_,_,⟨h1,_⟩,_⟩:=h.res.at hi;exact h1
def putF[DecidableEq κ](f:κ->Option ν)(k:κ)(v:ν):κ->Option ν:=λx=>if x=k then some v else f x
theorem MapH.keys(hT:T.Ok ok){es:Array MapEntry}{clock n:Nat}{f:κ->Option ν}(h:MapH T ok es clock n f):∀e∈es.toList,∃l,keyOf Tryz.prog T.kt e.key=some l:=λe he=>by
 obtain⟨k,v,hk,_,e1,_⟩:=h.of e he;rw [e1];exact hT.key k hk
theorem born_modify{es:Array MapEntry}{j:Nat}{g:MapEntry->MapEntry}(hg:∀e,(g e).born=e.born):(es.modify j g).toList.map (·.born)=es.toList.map (·.born):=by
 apply List.ext_getElem?
 intro i
 rw [fA,fA,dR,dR,nV]
 split
 ·cases es[i]?<;>simp [hg]
 ·rfl
theorem mapG_look(hT:T.Ok ok){w:World}{m n:Nat}{es:Array MapEntry}{clock:Nat}{f:κ->Option ν}{k:κ}{v:ν}(hb:w.heap[m]?=some (.map es clock))(h:MapH T ok es clock n f)(hk:ok k)(hv:f k=some v) :
  (gN T.t (.map (some m)) (T.K k) true).run Tryz.prog w = .ok (.tuple #[T.V v,.bool true]) w/\(gN T.t (.map (some m)) (T.K k) false).run Tryz.prog w = .ok (T.V v) w:=by
 obtain⟨kl,hkl⟩:=hT.key k hk;have hck:=hT.keyed.check w es.isEmpty hkl
 rcases hT.keyed.find w hkl es.toList (h.keys hT) with⟨f1,f2⟩|⟨j,e,f1,f2,f3⟩
 ·obtain⟨e,he,e1,_⟩:=h.at_ k v hv
  exact absurd e1 (f2 e he)
 ·obtain⟨k',v',_,hf,e1,e2⟩:=h.of e (aR f2)
  obtain rfl:k'=k:=hT.inj _ _ (e1.symm.trans f3);rw [hv] at hf
  injection hf with hf
  subst hf
  have f1':(lK T.kt (T.K k') es.toList).run Tryz.prog w = .ok (some (j,T.V v)) w:=by rw [<-e2];exact f1
  have hck':(mU es.isEmpty 10000 T.kt (T.K k')).run Tryz.prog w = .ok () w:=hck
  constructor<;>simp [gN,run_underlying hT.und,fR hb,hck',f1',gG]
theorem mapG_put[DecidableEq κ](hT:T.Ok ok){w:World}{m n:Nat}{es:Array MapEntry}{clock:Nat}{f:κ->Option ν}{k:κ}(v:ν)(hb:w.heap[m]?=some (.map es clock))(h:MapH T ok es clock n f)(hk:ok k) :
  ∃w' es' c',(qF T.t (.map (some m)) (T.K k) (T.V v)).run Tryz.prog w = .ok () w'/\w'.heap[m]?=some (.map es' c')/\MapH T ok es' c' (if (f k).isSome then n else n+1) (putF f k v)/\w.grownBy w' (some m):=by
 obtain⟨kl,hkl⟩:=hT.key k hk;have hck:(mU false 10000 T.kt (T.K k)).run Tryz.prog w = .ok () w:=hT.keyed.check w false hkl;have hst:(Instr.keyThatStays (T.K k) (T.K k)).run Tryz.prog w = .ok (T.K k) w:=hT.keyed.stays w hkl;have hgr:∀es' c',w.grownBy (gH w m (.map es' c')) (some m):=λes' c'=>⟨rfl,rfl,rfl,by simp [gH],λi _ hi=>ChangeMaps.heap_setBlock_other hb _ (λe=>hi (by rw [e]))⟩
 rcases hT.keyed.find w hkl es.toList (h.keys hT) with⟨f1,f2⟩|⟨j,e,f1,f2,f3⟩
 ·have hno:f k=none:=by
   cases hf:f k with
   | none=>rfl
   | some v0 =>
    obtain⟨x,hx,e1,_⟩:=h.at_ k v0 hf;exact absurd e1 (f2 x hx)
  have f1':(lK T.kt (T.K k) es.toList).run Tryz.prog w = .ok none w:=f1;refine⟨_,es.push { key:=T.K k,val:=T.V v,born:=clock },clock+1,?_,oD hb _,⟨?_,?_,?_,?_,?_,?_⟩,hgr _ _⟩
  ·simp [qF,run_underlying hT.und,fR hb,rN _ hb,hck,f1',gG]
   rfl
  ·rw [Array.size_push,h.size,hno]
   rfl
  ·intro x hx
   rw [lE] at hx
   rcases bR.1 hx with hx|hx
   ·obtain⟨k1,v1,o1,h1,e1,e2⟩:=h.of x hx
    refine⟨k1,v1,o1,?_,e1,e2⟩
    unfold putF
    rw [if_neg (λe=>by rw [e,hno] at h1;cases h1),h1]
   ·obtain rfl:x={ key:=T.K k,val:=T.V v,born:=clock }:=by simpa using hx
    exact⟨k,v,hk,if_pos rfl,rfl,rfl⟩
  ·intro k1 v1 h1
   rw [lE]
   unfold putF at h1
   split at h1
   ·rename_i e
    subst e
    injection h1 with h1
    subst h1;exact⟨_,j6 _ (aE.2 rfl),rfl,rfl⟩
   ·obtain⟨x,hx,e1⟩:=h.at_ k1 v1 h1
    exact⟨x,g8 _ hx,e1⟩
  ·intro i i' x y hx hy hxy
   rw [Array.getElem?_push] at hx hy
   split at hx<;>split at hy
   ·omega
   ·injection hx with hx
    subst hx;exact absurd hxy.symm (f2 y (by simpa using jP hy))
   ·injection hy with hy
    subst hy;exact absurd hxy (f2 x (by simpa using jP hx))
   ·exact h.one i i' x y hx hy hxy
  ·intro x hx
   rw [lE] at hx
   rcases bR.1 hx with hx|hx
   ·have:=h.born x hx
    omega
   ·obtain rfl:x={ key:=T.K k,val:=T.V v,born:=clock }:=by simpa using hx
    exact Nat.lt_succ_self _
  ·rw [lE,fC]
   refine List.nodup_append.2 ⟨h.stamp,by simp,λa ha b hb e=>?_⟩;obtain⟨x,hx,rfl⟩:=bP.1 ha;have h1:=h.born x hx
   have h2:b=clock:=by simpa using hb
   omega
 ·have f4:es[j]?=some e:=by simpa using f2
  obtain⟨k0,v0,_,h0,e0,_⟩:=h.of e (aR f2);obtain rfl:k0=k:=hT.inj _ _ (e0.symm.trans f3);have f1':(lK T.kt (T.K k0) es.toList).run Tryz.prog w = .ok (some (j,e.val)) w:=f1;have f3':e.key=T.K k0:=f3
  have hat:∀i,(es.modify j λe=>{ e with key:=T.K k0,val:=T.V v })[i]?=if j=i then(es[i]?).map λe=>{ e with key:=T.K k0,val:=T.V v } else es[i]?:=λi=>by
   rw [nV]
  refine⟨_,es.modify j λe=>{ e with key:=T.K k0,val:=T.V v },clock,?_,oD hb _,⟨?_,?_,?_,?_,?_,?_⟩,hgr _ _⟩
  ·simp [qF,run_underlying hT.und,fR hb,rN _ hb,hck,f1',f4,f3',hst,gG]
   rfl
  ·rw [Array.size_modify,h.size,h0]
   rfl
  ·intro x hx
   obtain⟨i,hi⟩:=jL hx;rw [dR,hat] at hi
   split at hi
   ·rename_i hji
    subst hji;rw [f4] at hi
    injection hi with hi
    subst hi;exact⟨k0,v,hk,if_pos rfl,rfl,rfl⟩
   ·rename_i hji
    obtain⟨k1,v1,o1,h1,e1,e2⟩:=h.of x (by simpa using jP hi);refine⟨k1,v1,o1,?_,e1,e2⟩
    unfold putF
    rw [if_neg (λe=>hji (h.one j i _ _ f4 hi (by rw [f3',e1,e]))),h1]
  ·intro k1 v1 h1
   unfold putF at h1
   split at h1
   ·rename_i e9
    subst e9
    injection h1 with h1
    subst h1;refine⟨{ e with key:=T.K k1,val:=T.V v },?_,rfl,rfl⟩;refine aR (i:=j) ?_;rw [dR,hat,if_pos rfl,f4]
    rfl
   ·rename_i hne
    obtain⟨x,hx,e1,e2⟩:=h.at_ k1 v1 h1;obtain⟨i,hi⟩:=jL hx;rw [dR] at hi;refine⟨x,aR (i:=i) ?_,e1,e2⟩;rw [dR,hat,if_neg,hi]
    rintro rfl
    rw [f4] at hi
    injection hi with hi
    subst hi;exact hne (hT.inj _ _ (e1.symm.trans f3))
  ·have hkey:∀(i:Nat) (x:MapEntry),(es.modify j λe=>{ e with key:=T.K k0,val:=T.V v })[i]?=some x->∃y,es[i]?=some y/\y.key=x.key:=λi x hx=>by
    rw [hat] at hx
    split at hx
    ·rename_i hji
     subst hji;rw [f4] at hx
     injection hx with hx
     subst hx;exact⟨e,f4,f3⟩
    ·exact⟨x,hx,rfl⟩
   intro i i' x y hx hy hxy
   obtain⟨x',hx',ex⟩:=hkey i x hx;obtain⟨y',hy',ey⟩:=hkey i' y hy;exact h.one i i' x' y' hx' hy' (by rw [ex,ey,hxy])
  ·intro x hx
   have hm:x.born∈(es.modify j λe=>{ e with key:=T.K k0,val:=T.V v }).toList.map (·.born):=bP.2 ⟨x,hx,rfl⟩;rw [born_modify (g:=λe=>{ e with key:=T.K k0,val:=T.V v }) λ_=>rfl] at hm;obtain⟨y,hy,e9⟩:=bP.1 hm;rw [<-e9];exact h.born y hy
  ·rw [born_modify (g:=λe=>{ e with key:=T.K k0,val:=T.V v }) λ_=>rfl]
   exact h.stamp
theorem mapG_none(hT:T.Ok ok){w:World}{m n:Nat}{es:Array MapEntry}{clock:Nat}{f:κ->Option ν}{k:κ}{z:ν}(hz:(zeroValue T.vt).run Tryz.prog w = .ok (T.V z) w)(hb:w.heap[m]?=some (.map es clock))(h:MapH T ok es clock n f)(hk:ok k)(hv:f k=none) :
  (gN T.t (.map (some m)) (T.K k) true).run Tryz.prog w = .ok (.tuple #[T.V z,.bool false]) w/\(gN T.t (.map (some m)) (T.K k) false).run Tryz.prog w = .ok (T.V z) w:=by
 obtain⟨kl,hkl⟩:=hT.key k hk;have hck:(mU es.isEmpty 10000 T.kt (T.K k)).run Tryz.prog w = .ok () w:=hT.keyed.check w es.isEmpty hkl
 rcases hT.keyed.find w hkl es.toList (h.keys hT) with⟨f1,f2⟩|⟨j,e,f1,f2,f3⟩
 ·have f1':(lK T.kt (T.K k) es.toList).run Tryz.prog w = .ok none w:=f1
  constructor<;>simp [gN,run_underlying hT.und,fR hb,hck,f1',hz,gG]
 ·obtain⟨k',v',_,hf,e1,_⟩:=h.of e (aR f2)
  obtain rfl:k'=k:=hT.inj _ _ (e1.symm.trans f3);rw [hv] at hf
  cases hf
end
section
variable{b:Base}{ops:Array Oper}{Q:Exit->Act->World->Prop}{N:Nat}{E:SE}{L:List LV}{R:List Res}{F M:World->Prop}{o:Oper}{rest:List Oper}{k m n:Nat}{x y z:Operand}{κ ν:Type}{T:MapT κ ν}{ok:κ->Prop}{f:κ->Option ν}
theorem l_mkG(T:MapT κ ν)(ok:κ->Prop)(hg:o.guard=none)(hd:o.dst=some k)(hk:aQ k N=true)(ho:o.op = .makeMap T.t none)
 (hn:∀m,lS Tryz.prog b ops Q N rest ⟨(k,.v (.map (some m)))::E,L,MapG T ok m 0 (λ_=>none)::R,F,M⟩):lS Tryz.prog b ops Q N (o::rest) ⟨E,L,R,F,M⟩:=λa w ⟨G,S,f1,f2,f3⟩=>by
 obtain⟨S',h⟩:=f3.gain (w':=w.alloc (.map #[] 0)) ((Below.refl _ w).alloc (aF _) _) (r:=MapG T ok w.heap.size 0 (λ_=>none)) (S':=λk=>k=w.heap.size) ⟨⟨#[],0,heap_alloc_new w _,⟨rfl,λ_ h=>(by simp at h),λ_ _ h=>(by cases h),λi j e f h _ _=>(by simp at h),λ_ h=>(by simp at h),by simp⟩⟩,λ_=>jO⟩ λk hk=>by omega
 refine wpl_go (v:=.map (some w.heap.size)) (w':=w.alloc (.map #[] 0)) (oneS hg) (by
  unfold execOp
  simp only [ho,Option.map_none,aG,run_makeMap,aD,aH]) ?_
 rw [hd];exact hn _ _ _ ⟨G,S',f1.put hk _,f2.cons trivial,h⟩
theorem l_updG[DecidableEq κ](hT:T.Ok ok)(i:Nat)(hi:R[i]?=some (MapG T ok m n f))(q:κ)(v:ν)(hq:ok q)(hg:o.guard=none)(hd:o.dst=none)(ho:o.op = .mapUpdate T.t x y z)(hx:evS E x=some (.v (.map (some m))))(hy:evS E y=some (.q (T.kv q)))(hz:evS E z=some (.q (T.vv v)))
 (hn:lS Tryz.prog b ops Q N rest ⟨E,L,R.set i (MapG T ok m (if (f q).isSome then n else n+1) (putF f q v)),F,M⟩):lS Tryz.prog b ops Q N (o::rest) ⟨E,L,R,F,M⟩:=λa w ⟨G,S,f1,f2,f3⟩=>by
 obtain⟨S1,⟨⟨es,c,hb,hok⟩,hS1⟩,hput⟩:=f3.put hi;have e1:a.eval x = .map (some m):=f1.eval (evS_ok hx);have e2:a.eval y=T.K q:=f1.eval (evS_ok hy);have e3:a.eval z=T.V v:=f1.eval (evS_ok hz);obtain⟨w',es',c',hr,hb',hok',hgr⟩:=mapG_put hT v hb hok hq;obtain⟨S'',h6⟩:=hput (MapG T ok m (if (f q).isSome then n else n+1) (putF f q v)) w' S1 ((Chg.of_grown hgr).mono λk _ hk=>(hS1 k).2 (cR hk).symm) ⟨⟨es',c',hb',hok'⟩,hS1⟩ (λk hk _=>hk)
 refine wpl_skip (w':=w') (oneS hg) (by
  unfold execOp
  simp only [ho,e1,e2,e3,hr,aG,aH,aD]) ?_
 rw [hd];exact hn _ _ ⟨G,S'',f1,f2,h6⟩
theorem runO_lookA(hT:T.Ok ok)(h:∀G S w,View G S L R F M w->MapA T ok m n f w)(q:κ)(v:ν)(hq:ok q)(hv:f q=some v)(ho:o.op = .lookup T.t x y false)(hx:evS E x=some (.v (.map (some m))))(hy:evS E y=some (.q (T.kv q))) :
  ∀(G:Nat->Nat) (S:Nat->Prop) (a:Act) (w:World),Fr N (denE G E) a->View G S L R F M w->(execOp a.eval o).run Tryz.prog w = .ok (.value ((SV.q (T.vv v)).den G)) w:=λG S a w f1 hw=>by
 obtain⟨es,c,hb,hok⟩:=h G S w hw;have e1:a.eval x = .map (some m):=f1.eval (evS_ok hx);have e2:a.eval y=T.K q:=f1.eval (evS_ok hy);have e3:(SV.q (T.vv v)).den G=T.V v:=rfl
 unfold execOp
 simp only [ho,e1,e2,e3,(mapG_look hT hb hok hq hv).2,aG,aH,aD]
theorem runO_lookA2(hT:T.Ok ok)(h:∀G S w,View G S L R F M w->MapA T ok m n f w)(q:κ)(v:ν)(hq:ok q)(hv:f q=some v)(ho:o.op = .lookup T.t x y true)(hx:evS E x=some (.v (.map (some m))))(hy:evS E y=some (.q (T.kv q))) :
  ∀(G:Nat->Nat) (S:Nat->Prop) (a:Act) (w:World),Fr N (denE G E) a->View G S L R F M w->(execOp a.eval o).run Tryz.prog w = .ok (.value ((SV.t [T.vv v,.c (.v (.bool true))]).den G)) w:=λG S a w f1 hw=>by
 obtain⟨es,c,hb,hok⟩:=h G S w hw;have e1:a.eval x = .map (some m):=f1.eval (evS_ok hx);have e2:a.eval y=T.K q:=f1.eval (evS_ok hy)
 unfold execOp
 simp only [ho,e1,e2,(mapG_look hT hb hok hq hv).1,aG,aH,aD]
 rfl
theorem runO_noneA(hT:T.Ok ok)(h:∀G S w,View G S L R F M w->MapA T ok m n f w)(q:κ)(v:ν)(hq:ok q)(hv:f q=none)(hzero:∀w,(zeroValue T.vt).run Tryz.prog w = .ok (T.V v) w)(ho:o.op = .lookup T.t x y false)(hx:evS E x=some (.v (.map (some m))))(hy:evS E y=some (.q (T.kv q))) :
  ∀(G:Nat->Nat) (S:Nat->Prop) (a:Act) (w:World),Fr N (denE G E) a->View G S L R F M w->(execOp a.eval o).run Tryz.prog w = .ok (.value ((SV.q (T.vv v)).den G)) w:=λG S a w f1 hw=>by
 obtain⟨es,c,hb,hok⟩:=h G S w hw;have e1:a.eval x = .map (some m):=f1.eval (evS_ok hx);have e2:a.eval y=T.K q:=f1.eval (evS_ok hy);have e3:(SV.q (T.vv v)).den G=T.V v:=rfl
 unfold execOp
 simp only [ho,e1,e2,e3,(mapG_none hT (hzero w) hb hok hq hv).2,aG,aH,aD]
theorem runO_noneA2(hT:T.Ok ok)(h:∀G S w,View G S L R F M w->MapA T ok m n f w)(q:κ)(v:ν)(hq:ok q)(hv:f q=none)(hzero:∀w,(zeroValue T.vt).run Tryz.prog w = .ok (T.V v) w)(ho:o.op = .lookup T.t x y true)(hx:evS E x=some (.v (.map (some m))))(hy:evS E y=some (.q (T.kv q))) :
  ∀(G:Nat->Nat) (S:Nat->Prop) (a:Act) (w:World),Fr N (denE G E) a->View G S L R F M w->(execOp a.eval o).run Tryz.prog w = .ok (.value ((SV.t [T.vv v,.c (.v (.bool false))]).den G)) w:=λG S a w f1 hw=>by
 obtain⟨es,c,hb,hok⟩:=h G S w hw;have e1:a.eval x = .map (some m):=f1.eval (evS_ok hx);have e2:a.eval y=T.K q:=f1.eval (evS_ok hy)
 unfold execOp
 simp only [ho,e1,e2,(mapG_none hT (hzero w) hb hok hq hv).1,aG,aH,aD]
 rfl
theorem runO_noneN(hT:T.Ok ok)(q:κ)(v:ν)(hq:ok q)(hzero:∀w,(zeroValue T.vt).run Tryz.prog w = .ok (T.V v) w)(ho:o.op = .lookup T.t x y false)(hx:evS E x=some (.v (.map none)))(hy:evS E y=some (.q (T.kv q))) :
  ∀(G:Nat->Nat) (S:Nat->Prop) (a:Act) (w:World),Fr N (denE G E) a->View G S L R F M w->(execOp a.eval o).run Tryz.prog w = .ok (.value ((SV.q (T.vv v)).den G)) w:=λG S a w f1 _=>by
 obtain⟨kl,hkl⟩:=hT.key q hq;have e1:a.eval x = .map none:=f1.eval (evS_ok hx);have e2:a.eval y=T.K q:=f1.eval (evS_ok hy);have e3:(SV.q (T.vv v)).den G=T.V v:=rfl;have hck:(mU true 10000 T.kt (T.K q)).run Tryz.prog w = .ok () w:=hT.keyed.check w true hkl
 have hf:(lK T.kt (T.K q) []).run Tryz.prog w = .ok none w:=by
  rcases hT.keyed.find w hkl [] (λ_ h=>by cases h) with⟨f1,_⟩|⟨j,e,_,f2,_⟩
  ·exact f1
  ·cases f2
 have hl:(gN T.t (.map none) (T.K q) false).run Tryz.prog w = .ok (T.V v) w:=by
  simp [gN,run_underlying hT.und,hck,hf,hzero w,gG]
 unfold execOp
 simp only [ho,e1,e2,e3,hl,aG,aH,aD]
theorem runO_lenA(hT:T.Ok ok)(h:∀G S w,View G S L R F M w->MapA T ok m n f w)(ho:o.op = .call { callee:=.builtin .len,args:=#[x],argTypes:=#[T.t] })(hx:evS E x=some (.v (.map (some m)))) :
  ∀(G:Nat->Nat) (S:Nat->Prop) (a:Act) (w:World),Fr N (denE G E) a->View G S L R F M w->(execOp a.eval o).run Tryz.prog w = .ok (.value ((SV.v (.int .i64 (n:Int))).den G)) w:=λG S a w f1 hw=>by
 obtain⟨es,c,hb,hok⟩:=h G S w hw;have e1:a.eval x = .map (some m):=f1.eval (evS_ok hx)
 have hl:(mI #[T.t] o.type #[.map (some m)]).run Tryz.prog w = .ok (.int .i64 (n:Int)) w:=by
  rw [<-hok.size]
  simp [mI,run_underlying hT.und,fR hb,goInt]
 unfold execOp
 simp only [ho];generalize a.eval=ρ at *
 show _=tN (tK (.int .i64 (n:Int))) w
 go_simp
theorem runO_lenN(hT:T.Ok ok)(ho:o.op = .call { callee:=.builtin .len,args:=#[x],argTypes:=#[T.t] })(hx:evS E x=some (.v (.map none))) :
  ∀(G:Nat->Nat) (S:Nat->Prop) (a:Act) (w:World),Fr N (denE G E) a->View G S L R F M w->(execOp a.eval o).run Tryz.prog w = .ok (.value ((SV.v (.int .i64 ((0:Nat):Int))).den G)) w:=λG S a w f1 _=>by
 have e1:a.eval x = .map none:=f1.eval (evS_ok hx)
 have hl:(mI #[T.t] o.type #[.map none]).run Tryz.prog w = .ok (.int .i64 ((0:Nat):Int)) w:=by
  simp [mI,run_underlying hT.und,goInt]
 unfold execOp
 simp only [ho];generalize a.eval=ρ at *
 show _=tN (tK (.int .i64 ((0:Nat):Int))) w
 go_simp
end
theorem mapI_ok{K:IntKind}{ν:Type}{T:MapT Int ν}(hu:Tryz.prog.underlying T.t=some (.map T.kt T.vt))(hk:Tryz.prog.underlying T.kt=some (.int K))(hkv:T.kv=λn=>.c (.v (.int K n))):T.Ok λn=>(Lit.int K n).wf=true where
 und:=hu
 keyed:=Maps.int_keyed hk
 key k h:=by
  rw [hkv];exact⟨_,Maps.keyOf_int_mk hk h⟩
 inj k k' h:=by
  rw [hkv] at h
  injection h
section
variable{κ ν:Type}{T:MapT κ ν}{ok:κ->Prop}{es:Array MapEntry}{clock n m r:Nat}{f:κ->Option ν}{seen:Array Nat}{done:List (κ×ν)}
structure DidM(T:MapT κ ν)(ok:κ->Prop)(es:Array MapEntry)(f:κ->Option ν)(seen:Array Nat)(done:List (κ×ν)):Prop where
  in_:∀d∈done,ok d.1/\f d.1=some d.2
  nodup:(done.map (·.1)).Nodup
  iff_:∀x∈es.toList,seen.contains x.born=true↔∃d∈done,x.key=T.K d.1
theorem DidM.nil:DidM T ok es f #[] []:=⟨λ_ h=>(by cases h),List.nodup_nil,λx _=>by simp⟩
theorem born_one{l:List MapEntry}(h:(l.map (·.born)).Nodup):∀{x y:MapEntry},x∈l->y∈l->x.born=y.born->x=y:=by
 induction l with
 | nil=>intro x _ hx;cases hx
 | cons a l ih =>
  intro x y hx hy e
  obtain⟨h1,h2⟩:=List.nodup_cons.1 h
  rcases aL.1 hx with e1|hx2<;>rcases aL.1 hy with e2|hy2
  ·rw [e1,e2]
  ·exact absurd (bP.2 ⟨y,hy2,by rw [<-e,e1]⟩) h1
  ·exact absurd (bP.2 ⟨x,hx2,by rw [e,e2]⟩) h1
  ·exact ih h2 hx2 hy2 e
theorem DidM.next(hH:MapH T ok es clock n f)(h:DidM T ok es f seen done){e:MapEntry}(he:e∈(leftOf es seen).toList):∃k v,ok k/\f k=some v/\e.key=T.K k/\e.val=T.V v/\(∀d∈done,d.1≠k)/\DidM T ok es f (seen.push e.born) (done++[(k,v)]):=by
 obtain⟨h1,h2⟩:=mem_left he;obtain⟨k,v,hk,hf,e1,e2⟩:=hH.of e h1
 have hne:∀d∈done,d.1≠k:=λd hd hdk=>by
  have:=(h.iff_ e h1).2 ⟨d,hd,by rw [e1,hdk]⟩;rw [h2] at this
  cases this
 refine⟨k,v,hk,hf,e1,e2,hne,⟨?_,?_,?_⟩⟩
 ·intro d hd
  rcases bR.1 hd with hd|hd
  ·exact h.in_ d hd
  ·rw [aE.1 hd]
   exact⟨hk,hf⟩
 ·rw [fC]
  refine List.nodup_append.2 ⟨h.nodup,by simp,λa ha b hb e=>?_⟩;obtain⟨d,hd,rfl⟩:=bP.1 ha;exact hne d hd (e.trans (by simpa using hb))
 ·intro x hx
  rw [contains_push,Bool.or_eq_true,h.iff_ x hx]
  constructor
  ·rintro(⟨d,hd,e3⟩|e3)
   ·exact⟨d,g8 _ hd,e3⟩
   ·obtain rfl:=born_one hH.stamp hx h1 (by simpa using e3)
    exact⟨(k,v),j6 _ (aE.2 rfl),e1⟩
  ·rintro⟨d,hd,e3⟩
   rcases bR.1 hd with hd|hd
   ·exact .inl ⟨d,hd,e3⟩
   ·rw [aE.1 hd] at e3
    obtain⟨i,hi⟩:=jL hx;obtain⟨j,hj⟩:=jL h1;have:=hH.one i j x e (by simpa using hi) (by simpa using hj) (by rw [e3,e1]);subst this;rw [hi] at hj
    injection hj with hj
    subst hj;exact .inr (by simp)
theorem DidM.all(hT:T.Ok ok)(hH:MapH T ok es clock n f)(h:DidM T ok es f seen done)(h0:(leftOf es seen).size=0){k:κ}{v:ν}(hv:f k=some v):(k,v)∈done:=by
 obtain⟨e,he,e1,_⟩:=hH.at_ k v hv;obtain⟨d,hd,e2⟩:=(h.iff_ e he).1 (all_seen es seen h0 e he);have e3:d.1=k:=hT.inj _ _ (e2.symm.trans e1);have e4:=(h.in_ d hd).2;rw [e3,hv] at e4
 injection e4 with e4
 obtain⟨a,b⟩:=d;simp only at e3 e4;rw [<-e3,e4];exact hd
def LastM(T:MapT κ ν)(es:Array MapEntry)(seen:Array Nat)(q:κ)(v:ν):Prop:=∃e∈es.toList,∃s0:Array Nat,seen=s0.push e.born/\e.key=T.K q/\e.val=T.V v
def MapB(m:Nat)(es:Array MapEntry)(clock:Nat):Res where
  holds w S:=w.heap[m]?=some (.map es clock)/\∀k,S k↔k=m
  keep:=λ⟨h1,h2⟩ hk=>⟨(hk m ((h2 m).2 rfl)).trans h1,h2⟩
  lt:=λ⟨h1,h2⟩ k hk=>by rw [(h2 k).1 hk];exact(a7.1 h1).1
def MapE(m:Nat)(es:Array MapEntry)(clock:Nat)(w:World):Prop:=w.heap[m]?=some (.map es clock)
instance:Pst (MapE m es clock):=⟨λ_ _ h hb=>(hb.block m (a7.1 h).1).trans h⟩
def ItR(m:Option Nat)(r clock:Nat)(seen:Array Nat):Res where
  holds w S:=w.heap[r]?=some (.mapIter m clock seen clock)/\∀k,S k↔k=r
  keep:=λ⟨h1,h2⟩ hk=>⟨(hk r ((h2 r).2 rfl)).trans h1,h2⟩
  lt:=λ⟨h1,h2⟩ k hk=>by rw [(h2 k).1 hk];exact(a7.1 h1).1
end
section
variable{κ ν:Type}{T:MapT κ ν}{ok:κ->Prop}{es:Array MapEntry}{clock n m r:Nat}{f:κ->Option ν}{seen:Array Nat}{done:List (κ×ν)}
variable{b:Base}{G:Nat->Nat}{S:Nat->Prop}{ops:Array Oper}{Q:Exit->Act->World->Prop}{N:Nat}{E:SE}{L:List LV}{R:List Res}{F M:World->Prop}{o:Oper}{rest l:List Oper}{k:Nat}{x:Operand}{t kt e:TypeId}{w:World}
theorem mapE_own(i:Nat)(hi:R[i]?=some (MapB m es clock)):∀G S w,View G S L R F M w->MapE m es clock w:=λ_ _ _ h=>by
 obtain⟨_,_,⟨h1,_⟩,_⟩:=h.res.at hi;exact h1
theorem StW.openG(h:StW b G S L R F M w){i:Nat}(hi:R[i]?=some (MapG T ok m n f)):∃es clock S',MapH T ok es clock n f/\StW b G S' L (R.set i (MapB m es clock)) F M w:=by
 obtain⟨S1,⟨⟨es,c,h1,h2⟩,h3⟩,h4⟩:=h.put hi;obtain⟨S'',h5⟩:=h4 (MapB m es c) w S1 (Chg.refl _ _) ⟨h1,h3⟩ λ_ hk _=>hk;exact⟨es,c,S'',h2,h5⟩
theorem StW.closeG(h:StW b G S L R F M w){i:Nat}(hi:R[i]?=some (MapB m es clock))(hH:MapH T ok es clock n f):∃S',StW b G S' L (R.set i (MapG T ok m n f)) F M w:=by
 obtain⟨S1,⟨h1,h3⟩,h4⟩:=h.put hi;exact h4 (MapG T ok m n f) w S1 (Chg.refl _ _) ⟨⟨es,clock,h1,hH⟩,h3⟩ λ_ hk _=>hk
theorem l_openG(i:Nat)(hi:R[i]?=some (MapG T ok m n f))(hn:∀es clock,MapH T ok es clock n f->lS Tryz.prog b ops Q N l ⟨E,L,R.set i (MapB m es clock),F,M⟩):lS Tryz.prog b ops Q N l ⟨E,L,R,F,M⟩:=λa w ⟨G,S,h1,h2,h3⟩=>by
 obtain⟨es,c,S',h4,h5⟩:=h3.openG hi;exact hn es c h4 a w ⟨G,S',h1,h2,h5⟩
theorem k_openG{K:Act->World->Prop}(i:Nat)(hi:R[i]?=some (MapG T ok m n f))(hn:∀es clock,MapH T ok es clock n f->kS b K N ⟨E,L,R.set i (MapB m es clock),F,M⟩):kS b K N ⟨E,L,R,F,M⟩:=λa w ⟨G,S,h1,h2,h3⟩=>by
 obtain⟨es,c,S',h4,h5⟩:=h3.openG hi;exact hn es c h4 a w ⟨G,S',h1,h2,h5⟩
theorem k_closeG{K:Act->World->Prop}(T:MapT κ ν)(i:Nat)(hi:R[i]?=some (MapB m es clock))(hH:MapH T ok es clock n f)(hn:kS b K N ⟨E,L,R.set i (MapG T ok m n f),F,M⟩):kS b K N ⟨E,L,R,F,M⟩:=λa w ⟨G,S,h1,h2,h3⟩=>by
 obtain⟨S',h5⟩:=h3.closeG hi hH;exact hn a w ⟨G,S',h1,h2,h5⟩
theorem StW.freeB(h:StW b G S L R F M w){i:Nat}(hi:R[i]?=some (MapB m es clock)):∃S',StW b G S' L (R.eraseIdx i) (λw=>MapE m es clock w/\F w) M w:=by
 obtain⟨S1,S2,h1,h2,h3,h4⟩:=h.let hi;refine⟨S2,h4.and λw' hw=>?_⟩;have hg:S1 m:=(h1.2 m).2 rfl;refine(hw.block m (a7.1 h1.1).1 ?_).trans h1.1
 rintro(hx|hx|⟨j,hj,e⟩)
 ·obtain⟨hx1,hx2⟩:=h.old m hx
  exact hx2 (h.mine m (.inl ((h3 m).2 (.inl hg))) hx1)
 ·exact h2 m hg hx
 ·exact h.sep j hj (by rw [e];exact(h3 m).2 (.inl hg))
theorem k_freeB{K:Act->World->Prop}(i:Nat)(hi:R[i]?=some (MapB m es clock))(hn:kS b K N ⟨E,L,R.eraseIdx i,λw=>MapE m es clock w/\F w,M⟩):kS b K N ⟨E,L,R,F,M⟩:=λa w ⟨G,S,h1,h2,h3⟩=>by
 obtain⟨S',h4⟩:=h3.freeB hi;exact hn a w ⟨G,S',h1,h2,h4⟩
theorem l_rangeM(hg:o.guard=none)(hd:o.dst=some k)(hk:aQ k N=true)(ho:o.op = .range t x)(hu:Tryz.prog.underlying t=some (.map kt e))(hx:evS E x=some (.v (.map (some m))))(hv:∀G S w,View G S L R F M w->MapE m es clock w)
 (hn:∀r,lS Tryz.prog b ops Q N rest ⟨(k,.v (.pointer (some ⟨r,0,none⟩)))::E,L,ItR (some m) r clock #[]::R,F,M⟩):lS Tryz.prog b ops Q N (o::rest) ⟨E,L,R,F,M⟩:=λa w ⟨G,S,f1,f2,f3⟩=>by
 have e1:a.eval x = .map (some m):=f1.eval (evS_ok hx)
 obtain⟨S',h⟩:=f3.gain (w':=w.alloc (.mapIter (some m) clock #[] clock)) ((Below.refl _ w).alloc (aF _) _) (r:=ItR (some m) w.heap.size clock #[]) (S':=λk=>k=w.heap.size) ⟨heap_alloc_new w _,λ_=>jO⟩ λk hk=>by omega
 refine wpl_go (v:=.pointer (some ⟨w.heap.size,0,none⟩)) (w':=w.alloc (.mapIter (some m) clock #[] clock)) (oneS hg) (by
  unfold execOp
  simp only [ho,e1,aG,run_range_map w t kt e m es clock hu (hv G S w f3.view),aD,aH]) ?_
 rw [hd];exact hn _ _ _ ⟨G,S',f1.put hk _,f2.cons trivial,h⟩
theorem l_rangeN(hg:o.guard=none)(hd:o.dst=some k)(hk:aQ k N=true)(ho:o.op = .range t x)(hu:Tryz.prog.underlying t=some (.map kt e))(hx:evS E x=some (.v (.map none)))
 (hn:∀r,lS Tryz.prog b ops Q N rest ⟨(k,.v (.pointer (some ⟨r,0,none⟩)))::E,L,ItR none r 0 #[]::R,F,M⟩):lS Tryz.prog b ops Q N (o::rest) ⟨E,L,R,F,M⟩:=λa w ⟨G,S,f1,f2,f3⟩=>by
 have e1:a.eval x = .map none:=f1.eval (evS_ok hx)
 obtain⟨S',h⟩:=f3.gain (w':=w.alloc (.mapIter none 0 #[] 0)) ((Below.refl _ w).alloc (aF _) _) (r:=ItR none w.heap.size 0 #[]) (S':=λk=>k=w.heap.size) ⟨heap_alloc_new w _,λ_=>jO⟩ λk hk=>by omega
 refine wpl_go (v:=.pointer (some ⟨w.heap.size,0,none⟩)) (w':=w.alloc (.mapIter none 0 #[] 0)) (oneS hg) (by
  unfold execOp
  simp only [ho,e1,aG,run_range_nilMap w t kt e hu,aD,aH]) ?_
 rw [hd];exact hn _ _ _ ⟨G,S',f1.put hk _,f2.cons trivial,h⟩
theorem l_nextM(hH:MapH T ok es clock n f)(hD:DidM T ok es f seen done)(hko:∀q,ok q->(T.kv q).Ok)(hvo:∀v,(T.vv v).Ok)(i:Nat)(hi:R[i]?=some (ItR (some m) r clock seen))(hg:o.guard=none)(hd:o.dst=some k)(hk:aQ k N=true)(ho:o.op = .next x false)(hx:evS E x=some (.v (.pointer (some ⟨r,0,none⟩))))(hv:∀G S w,View G S L R F M w->MapE m es clock w)
 (h0:(leftOf es seen).size=0->lS Tryz.prog b ops Q N rest ⟨(k,.t [.c (.v (.bool false))])::E,L,R,F,M⟩)
 (h1:∀q v seen',ok q->f q=some v->(∀d∈done,d.1≠q)->(leftOf es seen').size<(leftOf es seen).size->LastM T es seen' q v->DidM T ok es f seen' (done++[(q,v)])->lS Tryz.prog b ops Q N rest ⟨(k,.t [.c (.v (.bool true)),T.kv q,T.vv v])::E,L,R.set i (ItR (some m) r clock seen'),F,M⟩):lS Tryz.prog b ops Q N (o::rest) ⟨E,L,R,F,M⟩:=λa w ⟨G,S,f1,f2,f3⟩=>by
 have e1:a.eval x = .pointer (some ⟨r,0,none⟩):=f1.eval (evS_ok hx);have hb:=hv G S w f3.view;obtain⟨S1,⟨hr,hS1⟩,hput⟩:=f3.put hi
 rcases run_next_at (P:=Tryz.prog) w o.type r m clock clock seen es clock hr hb hH.born (aF _) with⟨h2,hrun⟩|⟨e,he,w1,hal,hrun⟩
 ·refine wpl_go (v:=.tuple #[.bool false]) (w':=w) (oneS hg) (by
   unfold execOp
   simp only [ho,e1,aG,hrun,aD,aH]) ?_
  rw [hd];exact h0 h2 _ _ ⟨G,S,f1.put hk _,f2.cons (one_ok trivial),f3⟩
 ·obtain⟨q,v,hq,hf,ek,ev,hne,hD'⟩:=hD.next hH he
  have hr1:w1.heap[r]?=some (.mapIter (some m) clock seen clock):=by rcases hal with rfl|rfl<;>exact hr
  have hset:=MapKept.heap_set (o':=.mapIter (some m) clock (seen.push e.born) clock) hr1
  have hgr:w.grownBy (gH w1 r (.mapIter (some m) clock (seen.push e.born) clock)) (some r):=by
   rcases hal with rfl|rfl<;>exact⟨rfl,rfl,rfl,by simp [gH],λi _ hi=>hset.2 i (λe=>hi (by rw [e]))⟩
  obtain⟨S'',h6⟩:=hput (ItR (some m) r clock (seen.push e.born)) _ S1 ((Chg.of_grown hgr).mono λk _ hk=>(hS1 k).2 (cR hk).symm) ⟨hset.1,hS1⟩ λ_ hk _=>hk
  refine wpl_go (v:=.tuple #[.bool true,e.key,e.val]) (w':=gH w1 r (.mapIter (some m) clock (seen.push e.born) clock)) (oneS hg) (by
   unfold execOp
   simp only [ho,e1,aG,hrun,aD,aH]) ?_
  rw [hd,ek,ev];exact h1 q v _ hq hf hne (left_shrinks es seen e he) ⟨e,(mem_left he).1,seen,rfl,ek,ev⟩ hD' _ _ ⟨G,S'',f1.put hk _,f2.cons (more_ok trivial (two_ok (hko q hq) (hvo v))),h6⟩
theorem l_nextN(i:Nat)(hi:R[i]?=some (ItR none r clock seen))(hg:o.guard=none)(hd:o.dst=some k)(hk:aQ k N=true)(ho:o.op = .next x false)(hx:evS E x=some (.v (.pointer (some ⟨r,0,none⟩))))
 (h0:lS Tryz.prog b ops Q N rest ⟨(k,.t [.c (.v (.bool false))])::E,L,R,F,M⟩):lS Tryz.prog b ops Q N (o::rest) ⟨E,L,R,F,M⟩:=λa w ⟨G,S,f1,f2,f3⟩=>by
 have e1:a.eval x = .pointer (some ⟨r,0,none⟩):=f1.eval (evS_ok hx);obtain⟨S1,⟨hr,hS1⟩, -⟩:=f3.put hi
 have hrun:(Instr.next (.pointer (some ⟨r,0,none⟩)) false o.type).run Tryz.prog w = .ok (.tuple #[.bool false]) w:=by
  simp [Instr.next,getObj,aG,Sem.run,hr,gG]
 refine wpl_go (v:=.tuple #[.bool false]) (w':=w) (oneS hg) (by
  unfold execOp
  simp only [ho,e1,aG,hrun,aD,aH]) ?_
 rw [hd];exact h0 _ _ ⟨G,S,f1.put hk _,f2.cons (one_ok trivial),f3⟩
theorem runO_entry{q:κ}{v:ν}(hH:MapH T ok es clock n f)(i:Nat)(hi:R[i]?=some (ItR (some m) r clock seen))(hl:LastM T es seen q v)(hv:∀G S w,View G S L R F M w->MapE m es clock w)(ho:o.op = .entry x)(hx:evS E x=some (.v (.pointer (some ⟨r,0,none⟩)))) :
  ∀(G:Nat->Nat) (S:Nat->Prop) (a:Act) (w:World),Fr N (denE G E) a->View G S L R F M w->(execOp a.eval o).run Tryz.prog w = .ok (.value ((SV.t [T.kv q,T.vv v]).den G)) w:=λG S a w f1 hw=>by
 have e1:a.eval x = .pointer (some ⟨r,0,none⟩):=f1.eval (evS_ok hx);obtain⟨_,_,⟨hr,_⟩,_⟩:=hw.res.at hi;obtain⟨e,he,s0,rfl,ek,ev⟩:=hl;have hrun:=run_entry_at (P:=Tryz.prog) w r m clock s0 es clock e hr (hv G S w hw) he hH.stamp
 unfold execOp
 simp only [ho,e1,hrun,ek,ev,aG,aH,aD]
 rfl
theorem l_mkGn{y:Operand}{K:IntKind}{z:Int}(T:MapT κ ν)(ok:κ->Prop)(hT:T.Ok ok)(hg:o.guard=none)(hd:o.dst=some k)(hk:aQ k N=true)(ho:o.op = .makeMap T.t (some y))(hy:evS E y=some (.v (.int K z)))
 (hn:∀m,lS Tryz.prog b ops Q N rest ⟨(k,.v (.map (some m)))::E,L,MapG T ok m 0 (λ_=>none)::R,F,M⟩):lS Tryz.prog b ops Q N (o::rest) ⟨E,L,R,F,M⟩:=λa w ⟨G,S,f1,f2,f3⟩=>by
 have e1:a.eval y = .int K z:=f1.eval (evS_ok hy)
 obtain⟨S',h⟩:=f3.gain (w':=w.alloc (.map #[] 0)) ((Below.refl _ w).alloc (aF _) _) (r:=MapG T ok w.heap.size 0 (λ_=>none)) (S':=λk=>k=w.heap.size) ⟨⟨#[],0,heap_alloc_new w _,⟨rfl,λ_ h=>(by simp at h),λ_ _ h=>(by cases h),λi j e f h _ _=>(by simp at h),λ_ h=>(by simp at h),by simp⟩⟩,λ_=>jO⟩ λk hk=>by omega
 have hrun:(Instr.makeMap T.t (some (.int K z))).run Tryz.prog w = .ok (.map (some w.heap.size)) (w.alloc (.map #[] 0)):=by
  simp [Instr.makeMap,run_underlying hT.und,asInt,gG]
  rfl
 refine wpl_go (v:=.map (some w.heap.size)) (w':=w.alloc (.map #[] 0)) (oneS hg) (by
  unfold execOp
  simp only [ho,Option.map_some,e1,aG,hrun,aD,aH]) ?_
 rw [hd];exact hn _ _ _ ⟨G,S',f1.put hk _,f2.cons trivial,h⟩
end
end Go.Proofs.YtlhlkofpjhpaoaaGreatDoor
namespace Go.Proofs.YtlhlkofpjhpaoaaGreatDoor
open Go.RowKit Go.IntWalk Nums
def nilH:HSeg:=⟨none,0,[]⟩
theorem keysD_mem:∀{l:List EntD} {id:List UInt8},bU l id≠[]->(id,bU l id)∈l
 | [],_,h=>(h rfl).elim
 | e::l,id,h=>by
  rw [cH] at h ⊢
  by_cases c:e.1=id
  ·rw [if_pos c]
   rw [<-c];exact List.mem_cons_self
  ·rw [if_neg c] at h ⊢
   exact List.mem_cons_of_mem _ (keysD_mem h)
def SmallD(l:List EntD):Prop:=∀e∈l,e.2.length<=64
theorem SmallD.keys{l:List EntD}(h:SmallD l)(id:List UInt8):(bU l id).length<=64:=by
 by_cases c:bU l id=[]
 ·rw [c]
  exact aI _
 ·exact h _ (keysD_mem c)
theorem SmallD.put{l:List EntD}{id:List UInt8}{ks:List (List UInt8)}(h:SmallD l)(hk:ks.length<=64):SmallD (iB l id ks):=λe he=>by
 rcases kI he with rfl|he
 ·exact hk
 ·exact h e he
noncomputable def udH(u:UV):UD:=⟨u.id,u.ver,u.key,signB u⟩
theorem signB_ver{u:UV}(h:signB u=true):1<=u.ver/\u.ver<=64:=by
 unfold signB at h
 rw [aN] at h;exact of_decide_eq_true h.1
theorem okD_iff{l:List EntD}{u:UV}:okD l (udH u)=true↔(signB u=true/\u.ver=((bU l u.id).length:Int)+1):=by
 unfold okD udH
 rw [aN,decide_eq_true_eq]
theorem SmallD.step{l:List EntD}(h:SmallD l)(u:UV):SmallD (iV l (udH u)):=by
 unfold iV
 split
 ·rename_i hk
  obtain⟨h1,h2⟩:=okD_iff.1 hk;have h3:=signB_ver h1;refine h.put ?_
  show(bU l u.id++[u.key]).length<=64
  rw [aB]
  show(bU l u.id).length+1<=64
  omega
 ·exact h
theorem putD_len:∀(l:List EntD) (id:List UInt8) (ks:List (List UInt8)),(iB l id ks).length<=l.length+1
 | [],_,_=>aF _
 | e::l,id,ks=>by
  unfold iB
  split
  ·exact Nat.succ_le_succ (putD_len l id ks)
  ·split
   ·exact Nat.le_succ _
   ·exact aF _
theorem stepD_len(l:List EntD)(u:UD):(iV l u).length<=l.length+1:=by
 unfold iV
 split
 ·exact putD_len _ _ _
 ·exact Nat.le_succ _
def Tells(h:List UInt8->Option HSeg)(l:List EntD):Prop:=∀k,(∀s,h k=some s->s.l≠[]/\bU l k=s.l)/\(h k=none->bU l k=[])
theorem Tells.nil:Tells (λ_=>none) []:=λ_=>⟨λ_ h=>(by cases h),λ_=>rfl⟩
theorem Tells.put{h:List UInt8->Option HSeg}{l:List EntD}(ht:Tells h l)(k:List UInt8)(s:HSeg)(hs:s.l≠[]):Tells (putF h k s) (iB l k s.l):=λx=>by
 unfold putF
 rw [kK]
 by_cases c:x=k
 ·rw [if_pos c,if_pos c]
  exact⟨λs' e=>by injection e with e;subst e;exact⟨hs,rfl⟩,λe=>by cases e⟩
 ·rw [if_neg c,if_neg c]
  exact ht x
def overK(g:List UInt8->Option HSeg)(l:List EntD)(k:List UInt8):List (List UInt8):=match g k with
  | some s=>if s.l=[] then bU l k else s.l
  | none=>bU l k
abbrev entD(d:List UInt8×HSeg):EntD:=(d.1,d.2.l)
theorem buildD_one(l es:List EntD)(e:EntD):lX l (es++[e])=if e.2=[] then lX l es else iB (lX l es) e.1 e.2:=by
 unfold lX
 rw [List.foldl_append]
 rfl
theorem over_done{g:List UInt8->Option HSeg}{l:List EntD}{done:List (List UInt8×HSeg)}(hn:(done.map (·.1)).Nodup)(h1:∀d∈done,g d.1=some d.2)(h2:∀k s,g k=some s->(k,s)∈done)(k:List UInt8):bU (lX l (done.map entD)) k=overK g l k:=by
 have hp:(done.map entD).Pairwise λa b=>a.1≠b.1:=by
  rw [List.pairwise_map];exact List.pairwise_map.1 hn
 rw [n6 hp]
 unfold overK
 cases hg:g k with
 | none =>
  rw [pZ λe he hk=>?_,if_pos rfl];obtain⟨d,hd,rfl⟩:=bP.1 he;have:=h1 d hd;rw [show d.1=k from hk,hg] at this
  cases this
 | some s =>
  have:=oX hp (bP.2 ⟨_,h2 k s hg,rfl⟩);rw [show bU (done.map entD) k=s.l from this]
theorem over_none{g:List UInt8->Option HSeg}(h:∀k,g k=none)(l:List EntD)(k:List UInt8):overK g l k=bU l k:=by
 unfold overK
 rw [h k]
theorem MapH.zero{κ ν:Type}{T:MapT κ ν}{ok:κ->Prop}{es:Array MapEntry}{clock:Nat}{f:κ->Option ν}(h:MapH T ok es clock 0 f)(k:κ):f k=none:=by
 cases hf:f k with
 | none=>rfl
 | some v =>
  obtain⟨e,he,_⟩:=h.at_ k v hf;have:=h.size;have h0:es.toList=[]:=List.eq_nil_of_length_eq_zero (by simpa using this);rw [h0] at he
  cases he
end Go.Proofs.YtlhlkofpjhpaoaaGreatDoor
