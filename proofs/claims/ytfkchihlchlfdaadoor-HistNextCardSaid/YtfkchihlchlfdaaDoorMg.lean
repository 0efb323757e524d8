import Derived.Test.YtfkchihlchlfdaaDoorMe
import Derived.Test.YtfkchihlchlfdaaDoorMf
import Derived.Test.YtfkchihlchlfdaaDoorMc
import Derived.Laws.IdiomStrings
import Derived.Laws.BytesArg
import Derived.Laws.CopyOwn
import Derived.Maps.AppendAt
import Derived.ArgAppend
import Derived.Test.YtfkchihlchlfdaaDoorMb
import Derived.Lib.Mul64
set_option maxRecDepth 100000
set_option maxHeartbeats 8000000
open Go.Addr renaming add_mid->k9
open Go.Ending renaming returned->l7
open Go.Exit renaming inBlock->dX
open Go.IntKind renaming wrap_u64->aP,u8->gP
open Go.Lib renaming hid->aH,half_mul_le->Ff
open Go.Obj renaming cells->gM
open Go.Result renaming andThen_ok->aG
open Go.Sem renaming run_pure->aI,run_bind->aJ
open Go.Value renaming int->fD
open Go.World renaming size_alloc->aW
open Int renaming eq_ofNat_of_zero_le->vV
open List renaming replicate->aD,length_append->aO,append_assoc->aU,length_take->aZ,take_succ_cons->a9,getElem?_eq_getElem->bC,take_zero->bN,take_of_length_le->bT,length_cons->bW,append_nil->cD,mem_singleton->cG,map_cons->cH,eq_nil_of_length_eq_zero->cQ,map_toArray->eD,length_set->eP,take_append_drop->fQ,map_nil->gK,drop_eq_getElem_cons->lX,length_reverse->lZ,take_length->nB,flatten_cons->o6,drop_zero->qI,length_nil->qJ,flatten_append->tC,length->AW,getElem!_eq_getElem?_getD->C3
open Nat renaming le_refl->aF,blt->aQ,lt_of_lt_of_le->bB,lt_of_le_of_lt->bR,zero_add->cW,zero_le->dC,pow_succ->dE,le_of_lt->fA,add_zero->fJ,div_le_self->gJ,mul_comm->gN,le_trans->jL,mul_assoc->kJ,lt_succ_self->lT,ne_of_lt->oW,pow_zero->qG,add_mul->rH,sub_lt_sub_left->tI,succ_le_of_lt->xU,mul_one->Fc
open Option.some renaming injEq->bH
open UInt8 renaming ofNat->aX
namespace Go.Proofs.YtfkchihlchlfdaaDoor
open Go.RowKit Go.IntWalk Nums
def uH : Oct:=⟨b7.start[0]!,b7.start[1]!,b7.start[2]!,b7.start[3]!,b7.start[4]!,b7.start[5]!,b7.start[6]!,b7.start[7]!⟩
theorem GQ : OB 32 uH:=by
 constructor <;> decide
theorem CU : mxl (λi=>sqs[i]! / 4294967296) z8 8 = uH.list:=by
 show mxl _ [0,0,0,0,0,0,0,0] 8 = _
 rw [UJ]
 rfl
theorem uU.H7 {W0 w : World} {gm gn gh : Nat} {m : List UInt8} {h : List Nat} (d : uU W0 w gm gn gh m h) (k v : Nat) : uU W0 (w.setCell ⟨gh,k,none⟩ (.int .u64 (v : Int))) gm gn gh m (h.set k v) :=
 ⟨d.mm.far d.ne.1 _,d.nn.far d.ne.2 _,by rw [<-Ji]; exact d.hh.set k _,d.be.setCell d.le _,d.ne,d.le⟩
section
variable {W0 : World} {gm gn gh : Nat} {m : List UInt8} {Q : Exit -> Act -> World -> Prop}
def Px (lm cm gm gn gh i : Nat) : List (Nat × Value) :=
  [(83,.int .i64 (i : Int)),(82,.int .i64 8),(12,.slice (some ⟨gh,0,none⟩) 8 8),(1,.int .u64 32),(5,.slice (some ⟨gn,0,none⟩) 12 12),(6,.int .i64 64),(7,.int .i64 4),(8,.slice (some ⟨gm,0,none⟩) lm cm)]
theorem Oy {w : World} (lm cm : Nat) (h0 : uU W0 w gm gn gh m z8)
  (hend : ∀ w',uU W0 w' gm gn gh m uH.list -> kF (Q .normal) 359 (Px lm cm gm gn gh 8) w') :
  cF Tryd.prog (.loop (dl 2)) (dX 4 Q) 359 (Px lm cm gm gn gh 0) w:=by
 refine kB (m:=λi : Nat=>8 - i) (F:=Px lm cm gm gn gh) (R:=λi w=>i <= 8 /\ uU W0 w gm gn gh m (mxl (λi=>sqs[i]! / 4294967296) z8 i)) ?_ 0 ⟨by omega,by rw [pZ]; exact h0⟩
 rintro i w ⟨hi,hS⟩
 conv=>arg 2; whnf
 refine aM λK1 hK1=>?_;refine dB ?_
 by_cases hil : i < 8
 ·refine fN (i : Int) 8 true rfl rfl rfl rfl rfl rfl (decide_eq_true (by omega)) ?_
  refine bI λw1 hw1=>hK1 _ _ ?_;refine aM λK2 hK2=>?_;refine cB true rfl ?_;refine eZ ?_;refine hK2 _ _ ?_;refine aM λK3 hK3=>?_;refine dK ?_;refine aM λK4 hK4=>?_;refine dB ?_;refine aK (.int .i64 (i : Int)) rfl rfl rfl rfl rfl ?_;refine bU (.int .i64 (i : Int)) rfl rfl rfl rfl rfl ?_;refine bI λw2 hw2=>hK4 _ _ ?_;have hS:=(hS.up hw1).up hw2
  have hlm : (mxl (λi=>sqs[i]! / 4294967296) z8 i).length = 8:=by rw [dY,Sk]
  have ch:=hS.hh.word (j:=i) (by omega);have cf:=hS.hh.free i (by rw [cY]; omega);have hset:=mP (λi=>sqs[i]! / 4294967296) z8 (k:=i)
  have hsh : ((sqs[i]! : Nat) : Int) / 2 ^ 32 = ((sqs[i]! / 4294967296 : Nat) : Int):=by omega
  have RS:=λw1=>Lf i hil w1;generalize (mxl (λi=>sqs[i]! / 4294967296) z8 i)[i]! = old at *;refine k8 8 ?_;simp only [a9,bN];refine aK (.slice (some ⟨gh,0,none⟩) 8 8) rfl rfl rfl rfl rfl ?_;refine aK (.int .i64 (i : Int)) rfl rfl rfl rfl rfl ?_;refine aK (.int .i64 (i : Int)) rfl rfl rfl rfl rfl ?_;refine dG #[.int .i64 (i : Int)] (.int .u64 (sqs[i]! : Nat)) rfl rfl rfl Gb (λw _=>RS w) rfl rfl ?_;refine aK (.int .u64 32) rfl rfl rfl rfl rfl ?_;refine Oz 64 32 32 rfl rfl rfl rfl rfl rfl (by decide) ?_;refine IZ (sqs[i]! : Nat) 32 ((sqs[i]! / 4294967296 : Nat) : Int) (by omega) rfl rfl rfl rfl rfl rfl hsh ?_;refine dD gh 8 8 i hil (by decide) rfl rfl rfl rfl rfl rfl ?_;refine mA ⟨gh,i,none⟩ ((sqs[i]! / 4294967296 : Nat) : Int) _ (.inl ⟨rfl,rfl⟩) rfl rfl rfl rfl rfl ch cf hS.hh.lt λw3 hw3=>?_;refine hK3 _ _ ?_;refine dB ?_;refine gW (i : Int) 1 ((i + 1 : Nat) : Int) rfl rfl rfl rfl rfl rfl (by rw [i64_left,wrap64_in _ (by omega)]; omega) ?_;refine aK (.int .i64 ((i + 1 : Nat) : Int)) rfl rfl rfl rfl rfl ?_;refine bI λw4 hw4=>gD (i + 1) ⟨rfl,rfl,rfl,rfl,rfl,rfl,rfl,rfl,trivial⟩ ⟨by omega,?_⟩ (by omega);rw [<-hset];exact ((hS.up hw3).H7 i (sqs[i]! / 4294967296)).up hw4
 ·refine fN (i : Int) 8 false rfl rfl rfl rfl rfl rfl (decide_eq_false (by omega)) ?_
  refine bI λw1 hw1=>hK1 _ _ ?_;refine aM λK2 hK2=>?_;refine cB false rfl ?_;refine kC ?_;refine nQ (id:=4) (Q:=Q) ?_
  obtain rfl : i = 8:=by omega
  have hS:=hS.up hw1;rw [CU] at hS;exact dT (E':=Px lm cm gm gn gh 8) ⟨rfl,rfl,rfl,rfl,rfl,rfl,rfl,rfl,trivial⟩ (hend _ hS)
end
def rw4 (y : Nat) : List UInt8:=(Nums.bytes 4 y).reverse
theorem vC (y : Nat) : (rw4 y).length = 4:=by
 unfold rw4
 rw [lZ,cK]
theorem P3 (y i : Nat) (h : i < 4) : ((rw4 y)[i]!).toNat = y / 256 ^ (3 - i) % 256:=by
 rw [<-nS 4 y (m:=3 - i) (by omega),getElem!_pos (rw4 y) i (by rw [vC]; exact h),getElem!_pos (Nums.bytes 4 y) (3 - i) (by rw [cK]; omega)]
 unfold rw4
 rw [List.getElem_reverse];simp only [cK]
section
variable {wO : World} {gh : Nat} {Q : Exit -> Act -> World -> Prop}
def Hp (gh : Nat) (A : Option Addr) (n c i : Nat) : List (Nat × Value) :=
  [(338,.int .i64 (i : Int)),(337,.int .i64 8),(336,.slice (some ⟨gh,0,none⟩) 8 8),(26,.slice A n c),(7,.int .i64 4)]
def E8 (gh : Nat) (A : Option Addr) (n c i y : Nat) (k : Int) : List (Nat × Value):=(29,.int .i64 k) :: (28,.int .u64 (y : Int)) :: Hp gh A n c i
theorem Sm {w : World} (i y : Nat) (A : Option Addr) (c : Nat) (xs : List UInt8) (hxs : xs.length <= 64) (hU : Up wO w) (hG : GS w wO.heap.size 5 A c (By xs))
  (hend : ∀ w' A' c',Up wO w' -> GS w' wO.heap.size 5 A' c' (By (xs ++ rw4 y)) -> kF (Q .normal) 359 (E8 gh A' (By (xs ++ rw4 y)).length c' i y (-1)) w') :
  cF Tryd.prog (.loop (dl 10)) (dX 20 Q) 359 (E8 gh A (By xs).length c i y 3) w:=by
 have hstart : cF Tryd.prog (.loop (dl 10)) (dX 20 Q) 359 ((λs : Nat × Option Addr × Nat=>E8 gh s.2.1 (By (xs ++ (rw4 y).take (4 - s.1))).length s.2.2 i y ((s.1 : Int) - 1)) (4,A,c)) w:=by
  refine kB (m:=λs : Nat × Option Addr × Nat=>s.1) (F:=λs : Nat × Option Addr × Nat=>E8 gh s.2.1 (By (xs ++ (rw4 y).take (4 - s.1))).length s.2.2 i y ((s.1 : Int) - 1)) (R:=λs w=>s.1 <= 4 /\ Up wO w /\ GS w wO.heap.size 5 s.2.1 s.2.2 (By (xs ++ (rw4 y).take (4 - s.1)))) ?_ (4,A,c) ⟨aF _,hU,by rw [show 4 - (4,A,c).1 = 0 from rfl,bN,cD]; exact hG⟩
  rintro ⟨k,A,c⟩ w ⟨hk,hU,hG⟩
  dsimp only at hk hU hG ⊢
  conv=>arg 2; whnf
  cases k with
  | zero =>
   rw [show 4 - 0 = 4 from rfl,bT (by rw [vC]; exact aF _),show (((0 : Nat) : Int) - 1) = -1 from rfl];rw [show 4 - 0 = 4 from rfl,bT (by rw [vC]; exact aF _)] at hG;refine aM λK1 hK1=>?_;refine aM λK2 hK2=>?_;refine dB ?_;refine aK (.int .i64 (-1)) rfl rfl rfl rfl rfl ?_;refine Af (-1) 0 false rfl rfl rfl rfl rfl rfl (by decide) ?_;refine bI λw1 hw1=>hK2 _ _ ?_;refine cB false rfl ?_;refine kC ?_;refine nQ (id:=20) (Q:=Q) ?_;exact dT (E':=E8 gh A (By (xs ++ rw4 y)).length c i y (-1)) ⟨rfl,rfl,rfl,rfl,rfl,rfl,rfl,trivial⟩ (hend w1 A c (a6 hU hw1) (hG.up hw1))
  | succ k =>
   rw [show (((k + 1 : Nat) : Int) - 1) = (k : Int) by omega];have hb:=P3 y (3 - k) (by omega);rw [show 3 - (3 - k) = k by omega] at hb
   have hp : y / 256 ^ k = y / 2 ^ (8 * k):=by rw [Nat.pow_mul]
   have hnx : By (xs ++ (rw4 y).take (4 - (k + 1))) ++ [.int .u8 (((rw4 y)[3 - k]!).toNat : Int)] = By (xs ++ (rw4 y).take (4 - k)):=by
    have h1:=KU (R:=rw4 y) (n:=3 - k) (by rw [vC]; omega);rw [show 4 - k = 3 - k + 1 by omega,<-h1,show 4 - (k + 1) = 3 - k by omega,<-aU,uT (xs ++ (rw4 y).take (3 - k))]
    rfl
   have hzl : (By (xs ++ (rw4 y).take (4 - (k + 1)))).length <= 72:=by
    rw [b6,aO,aZ,vC]
    omega
   rw [hp] at hb;generalize hzs : xs ++ (rw4 y).take (4 - (k + 1)) = zs at *;generalize hzs2 : xs ++ (rw4 y).take (4 - k) = zs2 at *;generalize hbt : (rw4 y)[3 - k]! = bt at *;refine aM λK1 hK1=>?_;refine aM λK2 hK2=>?_;refine dB ?_;refine aK (.int .i64 (k : Int)) rfl rfl rfl rfl rfl ?_;refine Af (k : Int) 0 true rfl rfl rfl rfl rfl rfl (decide_eq_true (by omega)) ?_;refine bI λw1 hw1=>hK2 _ _ ?_;refine cB true rfl ?_;refine eZ ?_;refine hK1 _ _ ?_;have hG:=hG.up hw1;have hU1 : Up wO w1:=a6 hU hw1;refine aM λK3 hK3=>?_;refine dK ?_;refine k8 7 ?_;simp only [a9,bN];refine aK (.slice A (By zs).length c) rfl rfl rfl rfl rfl ?_;refine aK (.int .u64 (y : Int)) rfl rfl rfl rfl rfl ?_;refine aK (.int .i64 (k : Int)) rfl rfl rfl rfl rfl ?_;refine Ae 8 (k : Int) ((8 * k : Nat) : Int) rfl rfl rfl rfl rfl rfl (by rw [i64_left,wrap64_in _ (by omega)]; omega) ?_;refine Q5 ((8 * k : Nat) : Int) ((8 * k : Nat) : Int) rfl rfl rfl rfl rfl (by rw [aP]; omega) ?_;refine IZ (y : Int) (8 * k) ((y / 2 ^ (8 * k) : Nat) : Int) (by omega) rfl rfl rfl rfl rfl rfl (by simp) ?_;generalize y / 2 ^ (8 * k) = v at *;refine Ko (v : Int) ((bt.toNat : Nat) : Int) rfl rfl rfl rfl rfl (by rw [IntKind.wrap_u8',hb]; omega) ?_;refine uJ λw2 hw2=>?_;simp only [List.drop_succ_cons,qI];have hG:=hG.up hw2;have hU2 : Up wO w2:=a6 hU1 hw2;refine zY (bt.toNat : Int) rfl rfl rfl rfl rfl ?_;have hU3 : Up w2 (w2.alloc (.cells #[.int .u8 (bt.toNat : Int)] 5)):=(Up.refl w2).alloc _;have hV:=VL.new w2 [.int .u8 (bt.toNat : Int)] 5;have hG2:=hG.up hU3;have hz:=jL hU2.size hU3.size;have hU4 : Up wO (w2.alloc (.cells #[.int .u8 (bt.toNat : Int)] 5)):=a6 hU2 hU3;refine B9 (bytes:=1) (z:=.int .u8 0) (news:=[.int .u8 (bt.toNat : Int)]) (base:=wO.heap.size) (e:=5) (xs:=By zs) (A:=A) (c:=c) (ad:=⟨w2.heap.size,0,none⟩) (m:=1) (d:=1) rfl rfl rfl rfl rfl rfl Tryd.underlying37 lQ rfl hG2 rfl (λj u hu=>by rw [k9,cW]; exact hV.cell j u hu) (λu hu=>by rw [cG.1 hu]; rfl) (by omega) (by unfold maxLen; omega) hz ?_
   intro A' c' w3 hG3 hgr hat
   have hU5 : Up wO w3:=hG2.IM hU4 hgr hz;rw [hnx] at hG3 ⊢;refine cP (.slice A' (By zs2).length c') rfl rfl rfl rfl rfl ?_;refine bG ?_;refine hK3 _ _ ?_;refine dB ?_;refine aK (.int .i64 (k : Int)) rfl rfl rfl rfl rfl ?_;refine oS (k : Int) 1 ((k : Int) - 1) rfl rfl rfl rfl rfl rfl (by rw [i64_left,wrap64_in _ (by omega)]) ?_;refine bU (.int .i64 ((k : Int) - 1)) rfl rfl rfl rfl rfl ?_;refine bI λw5 hw5=>?_;subst hzs2;exact gD (F:=λs : Nat × Option Addr × Nat=>E8 gh s.2.1 (By (xs ++ (rw4 y).take (4 - s.1))).length s.2.2 i y ((s.1 : Int) - 1)) (m:=λs : Nat × Option Addr × Nat=>s.1) (R:=λs w=>s.1 <= 4 /\ Up wO w /\ GS w wO.heap.size 5 s.2.1 s.2.2 (By (xs ++ (rw4 y).take (4 - s.1)))) (s:=(k + 1,A,c)) (k,A',c') ⟨rfl,rfl,rfl,rfl,rfl,rfl,rfl,trivial⟩ ⟨Nat.le_of_succ_le hk,a6 hU5 hw5,hG3.up hw5⟩ (lT k)
 have e1 : (λs : Nat × Option Addr × Nat=>E8 gh s.2.1 (By (xs ++ (rw4 y).take (4 - s.1))).length s.2.2 i y ((s.1 : Int) - 1)) (4,A,c) = E8 gh A (By xs).length c i y 3:=by
  dsimp only
  rw [show 4 - 4 = 0 from rfl,bN,cD]
  rfl
 rw [e1] at hstart;exact hstart
end
def tY (h : List Nat) (i : Nat) : List UInt8:=((h.take i).map rw4).flatten
theorem Dr {h : List Nat} {i : Nat} (hi : i < h.length) : tY h (i + 1) = tY h i ++ rw4 h[i]!:=by
 unfold tY
 rw [List.take_add_one,bC hi,getElem!_pos h i hi,List.map_append,tC];simp only [Option.toList_some,cH,gK,o6,List.flatten_nil,cD]
theorem BW {h : List Nat} : ∀ {i : Nat},i <= h.length -> (tY h i).length = 4 * i
 | 0,_=>by simp [tY]
 | i + 1,hi=>by
  rw [Dr (by omega),aO,vC,BW (by omega)]
  omega
section
variable {wO : World} {gh : Nat} {Q : Exit -> Act -> World -> Prop}
theorem SR {w : World} (h : List Nat) (hh : h.length = 8) (hV : VL wO gh (Us h)) (hU : Up wO w)
  (hend : ∀ w' A' c',Up wO w' -> GS w' wO.heap.size 5 A' c' (By (tY h 8)) -> kF (Q .normal) 359 (Hp gh A' (By (tY h 8)).length c' 8) w') :
  cF Tryd.prog (.loop (dl 9)) (dX 18 Q) 359 (Hp gh none 0 0 0) w:=by
 have hstart : cF Tryd.prog (.loop (dl 9)) (dX 18 Q) 359 ((λs : Nat × Option Addr × Nat=>Hp gh s.2.1 (By (tY h s.1)).length s.2.2 s.1) (0,none,0)) w:=by
  refine kB (m:=λs : Nat × Option Addr × Nat=>8 - s.1) (F:=λs : Nat × Option Addr × Nat=>Hp gh s.2.1 (By (tY h s.1)).length s.2.2 s.1) (R:=λs w=>s.1 <= 8 /\ Up wO w /\ GS w wO.heap.size 5 s.2.1 s.2.2 (By (tY h s.1))) ?_ (0,none,0) ⟨by omega,hU,GS.nil _ _ _⟩
  rintro ⟨i,A,c⟩ w ⟨hi,hU,hG⟩
  dsimp only at hi hU hG ⊢
  conv=>arg 2; whnf
  refine aM λK1 hK1=>?_;refine dB ?_
  by_cases hil : i < 8
  ·refine fN (i : Int) 8 true rfl rfl rfl rfl rfl rfl (decide_eq_true (by omega)) ?_
   refine bI λw1 hw1=>hK1 _ _ ?_;refine aM λK2 hK2=>?_;refine cB true rfl ?_;refine eZ ?_;refine hK2 _ _ ?_;refine aM λK3 hK3=>?_;refine dK ?_;refine aM λK4 hK4=>?_;refine dB ?_;have hU1 : Up wO w1:=a6 hU hw1;have hG:=hG.up hw1;have cy:=(hV.up hU1).word (j:=i) (by omega);have hx:=Dr (h:=h) (i:=i) (by omega);have hl:=BW (h:=h) (i:=i) (by omega);generalize h[i]! = y at *;refine dD gh 8 8 i hil (by decide) rfl rfl rfl rfl rfl rfl ?_;refine cX ⟨gh,i,none⟩ (.int .u64 (y : Int)) (by decide) rfl rfl rfl rfl rfl (λ_ k=>(k.cell (bB hV.lt hU1.size)).trans cy) ?_;refine bU (.int .u64 (y : Int)) rfl rfl rfl rfl rfl ?_;refine bI λw2 hw2=>hK4 _ _ ?_;refine aM λK5 hK5=>?_;refine dB ?_;refine aK (.int .i64 4) rfl rfl rfl rfl rfl ?_;refine oS 4 1 3 rfl rfl rfl rfl rfl rfl (by decide) ?_;refine bU (.int .i64 3) rfl rfl rfl rfl rfl ?_;refine bI λw3 hw3=>?_;refine dT (E':=E8 gh A (By (tY h i)).length c i y 3) ⟨rfl,rfl,rfl,rfl,rfl,rfl,rfl,trivial⟩ ?_;refine hK5 _ _ ?_;refine dK ?_;refine Sm i y A c (tY h i) (by omega) (a6 (a6 hU1 hw2) hw3) ((hG.up hw2).up hw3) λw4 A' c' hU4 hG4=>?_;rw [<-hx] at hG4 ⊢;refine hK3 _ _ ?_;refine dB ?_;refine gW (i : Int) 1 ((i + 1 : Nat) : Int) rfl rfl rfl rfl rfl rfl (by rw [i64_left,wrap64_in _ (by omega)]; omega) ?_;refine aK (.int .i64 ((i + 1 : Nat) : Int)) rfl rfl rfl rfl rfl ?_;refine bI λw5 hw5=>?_;exact gD (F:=λs : Nat × Option Addr × Nat=>Hp gh s.2.1 (By (tY h s.1)).length s.2.2 s.1) (m:=λs : Nat × Option Addr × Nat=>8 - s.1) (R:=λs w=>s.1 <= 8 /\ Up wO w /\ GS w wO.heap.size 5 s.2.1 s.2.2 (By (tY h s.1))) (s:=(i,A,c)) (i + 1,A',c') ⟨rfl,rfl,rfl,rfl,rfl,trivial⟩ ⟨xU hil,a6 hU4 hw5,hG4.up hw5⟩ (tI hil (lT i))
  ·refine fN (i : Int) 8 false rfl rfl rfl rfl rfl rfl (decide_eq_false (by omega)) ?_
   refine bI λw1 hw1=>hK1 _ _ ?_;refine aM λK2 hK2=>?_;refine cB false rfl ?_;refine kC ?_;refine nQ (id:=18) (Q:=Q) ?_
   obtain rfl : i = 8:=by omega
   exact dT (E':=Hp gh A (By (tY h 8)).length c 8) ⟨rfl,rfl,rfl,rfl,rfl,trivial⟩ (hend w1 A c (a6 hU hw1) (hG.up hw1))
 exact hstart
end
theorem BO (l : List UInt8) (Z : Nat) (hZ : Z < 64) (h : (l.length + 9 + Z) % 64 = 0) : pad l Z ++ lq (8 * l.length) = l ++ jG 64 (l.length % 64) (8 * l.length):=by
 unfold pad jG
 have e : (if l.length % 64 + 1 <= 64 - 64 / 8 then 64 else 2 * 64) - 9 - l.length % 64 = Z:=by
  split <;> omega
 rw [e,aU,List.cons_append]
 rfl
theorem AF (m : List UInt8) : tY (ME b7 m).list 8 = eK b7 m:=by
 unfold tY eK
 rw [bT (aF 8)]
 rfl
theorem KV (m : List UInt8) : ME b7 m = jQ b7 64 uH (m ++ jG 64 (m.length % 64) (8 * m.length)):=rfl
theorem I7 (A0 : Option Addr) (c0 : Nat) (l : List UInt8) (hl : l.length <= 70368744177664) (w : World) (hR : RB w A0 c0 l) :
  Calls Tryd.prog 35 #[.slice A0 l.length c0,.int .u64 32] w (Vz w (eK b7 l)):=by
 refine calls_of_wp Tryd.func35 rfl ?_;refine (?_ : cF Tryd.prog _ _ 359 [(0,.slice A0 l.length c0),(1,.int .u64 32)] w) _ (Fr.start (by rw [Tryd.ntmps35]; rfl) _ ?_)
 rotate_left
 ·intro k v hk
  rw [fL] at hk
  split at hk
  ·rename_i e
   subst e
   cases hk
   rfl
  ·rw [fL] at hk
   split at hk
   ·rename_i e
    subst e
    cases hk
    rfl
   ·cases hk
 refine aM λK0 hK0=>?_;refine dB ?_;refine bU (.slice none 0 0) rfl rfl rfl rfl rfl ?_;refine bI λw0 hw0=>hK0 _ _ ?_;refine aM λK1 hK1=>?_;refine eQ ?_;refine LI 2 13 22 6 11 25 7 18 3 17 19 10 rfl rfl rfl rfl ?_;have hU4:=hw0.alloc (.cells (Us Lx).toArray 40);have hN4:=VL.new w0 (Us Lx) 40;have hw4e : w0.alloc (.cells #[.int .u64 2,.int .u64 13,.int .u64 22,.int .u64 6,.int .u64 11,.int .u64 25,.int .u64 7,.int .u64 18,.int .u64 3,.int .u64 17,.int .u64 19,.int .u64 10] 40) = w0.alloc (.cells (Us Lx).toArray 40):=rfl;rw [hw4e];clear hw4e;generalize w0.alloc (.cells (Us Lx).toArray 40) = wN at *;generalize hgn : w0.heap.size = gn at *;refine cP (.slice (some ⟨gn,0,none⟩) 12 12) rfl rfl rfl rfl rfl ?_;refine bG ?_;refine hK1 _ _ ?_;refine aM λK2 hK2=>?_;refine dB ?_;refine bU (.int .i64 64) rfl rfl rfl rfl rfl ?_;refine bI λw2 hw2=>hK2 _ _ ?_;refine aM λK3 hK3=>?_;refine aM λK4 hK4=>?_;refine dB ?_;refine aK (.int .u64 32) rfl rfl rfl rfl rfl ?_;refine TM 32 64 false rfl rfl rfl rfl rfl rfl (by decide) ?_;refine bI λw3 hw3=>hK4 _ _ ?_;refine cB false rfl ?_;refine eZ ?_;refine hK3 _ _ ?_;refine aM λK6 hK6=>?_;refine dB ?_;refine aK (.int .u64 32) rfl rfl rfl rfl rfl ?_;refine TA 32 8 4 (by decide) rfl rfl rfl rfl rfl rfl (by decide) ?_;refine TJ 4 4 rfl rfl rfl rfl rfl (by decide) ?_;refine bU (.int .i64 4) rfl rfl rfl rfl rfl ?_;refine bI λw6 hw6=>hK6 _ _ ?_;have hU6 : Up wN w6:=a6 (a6 hw2 hw3) hw6;refine aM λK7 hK7=>?_;refine eQ ?_;refine LJ rfl rfl rfl rfl ?_;have hU7 : Up wN (w6.alloc (.cells #[] 5)):=hU6.alloc _;have hG7:=GS.new w6 wN.heap.size 5 hU6.size;generalize w6.alloc (.cells #[] 5) = w7 at *;refine nP (.slice A0 l.length c0) rfl rfl rfl rfl rfl ?_;refine N9 (xs:=[]) (l:=l) (X:=A0) (d:=c0) (c:=0) (A:=some ⟨w6.heap.size,0,none⟩) (base:=wN.heap.size) rfl rfl rfl rfl rfl rfl hG7 ((hR.up hU4).up hU7) (by rw [qJ]; omega) hU7.size ?_
 intro A8 c8 w8 hG8 hgr8
 have hU8 : Up wN w8:=hG7.IM hU7 hgr8 hU7.size;rw [List.nil_append] at hG8 ⊢;refine cP (.slice A8 (By l).length c8) rfl rfl rfl rfl rfl ?_;refine bG ?_;refine hK7 _ _ ?_;refine aM λK8 hK8=>?_;refine eQ ?_;refine nP (.slice A8 (By l).length c8) rfl rfl rfl rfl rfl ?_;refine zY 128 rfl rfl rfl rfl rfl ?_;have hU9 : Up wN (w8.alloc (.cells #[.int .u8 128] 5)):=hU8.alloc _;have hV9:=VL.new w8 [.int .u8 128] 5;have hG9:=hG8.up ((Up.refl w8).alloc (.cells #[.int .u8 128] 5))
 have e0 : By l ++ [.int .u8 128] = By (pad l 0):=by
  unfold pad
  rw [uT]
  rfl
 refine B9 (bytes:=1) (z:=.int .u8 0) (news:=[.int .u8 128]) (base:=wN.heap.size) (e:=5) (xs:=By l) (A:=A8) (c:=c8) (ad:=⟨w8.heap.size,0,none⟩) (m:=1) (d:=1) rfl rfl rfl rfl rfl rfl Tryd.underlying37 lQ rfl hG9 rfl (λj u hu=>by rw [k9,cW]; exact hV9.cell j u hu) (λu hu=>by rw [cG.1 hu]; rfl) (by rw [b6]; omega) (by rw [b6]; unfold maxLen; omega) hU9.size ?_
 intro A10 c10 w10 hG10 hgr10 _
 have hU10 : Up wN w10:=hG9.IM hU9 hgr10 hU9.size;rw [e0] at hG10 ⊢;refine cP (.slice A10 (By (pad l 0)).length c10) rfl rfl rfl rfl rfl ?_;refine bG ?_;refine dT (E':=Jj l.length c0 A0 gn A10 (By (pad l 0)).length c10) ⟨rfl,rfl,rfl,rfl,rfl,rfl,trivial⟩ ?_;refine hK8 _ _ ?_;refine aM λK9 hK9=>?_;refine dK ?_;refine Lq l hl A10 c10 hU10 hG10 λw11 A11 c11 Z hU11 hZ hZ2 hG11=>?_;refine hK9 _ _ ?_;refine aM λK10 hK10=>?_;refine k8 2 ?_;simp only [a9,bN];refine aK (.int .i64 4) rfl rfl rfl rfl rfl ?_;refine Ae 2 4 8 rfl rfl rfl rfl rfl rfl (by decide) ?_;refine uJ λw12 hw12=>?_;simp only [List.drop_succ_cons,qI];have hU12 : Up wN w12:=hU11.step hw12;have hG12:=hG11.up hw12;refine ID (K:=.i64) (z:=.int .u8 0) (bytes:=1) 8 rfl rfl rfl rfl rfl rfl Tryd.underlying37 lQ rfl (by decide) (by decide) ?_;have hU13:=hU12.alloc (.cells (By (aD 8 0)).toArray 5);have hV13:=VL.new w12 (By (aD 8 0)) 5;have hG13:=hG12.up ((Up.refl w12).alloc (.cells (By (aD 8 0)).toArray 5));have hne13 : A11.map (·.block) ≠ some w12.heap.size:=λh=>Nat.lt_irrefl _ (hG12.lt _ h).2;have hz13 : wN.heap.size <= w12.heap.size:=hU12.size;rw [show aD 8 (fD .u8 0) = By (aD 8 0) from rfl];generalize w12.alloc (.cells (By (aD 8 0)).toArray 5) = w13 at *;generalize w12.heap.size = gl at *;refine cP (.slice (some ⟨gl,0,none⟩) 8 8) rfl rfl rfl rfl rfl ?_;refine bG ?_;refine hK10 _ _ ?_;refine aM λK11 hK11=>?_;refine dB ?_;refine aK (.slice A0 l.length c0) rfl rfl rfl rfl rfl ?_;refine Co A0 l.length c0 (by decide) rfl rfl rfl rfl rfl ?_;refine Q3 (l.length : Int) (l.length : Int) rfl rfl rfl rfl rfl (by rw [aP]; omega) ?_;refine OH (l.length : Int) 8 ((8 * l.length : Nat) : Int) rfl rfl rfl rfl rfl rfl (by rw [aP]; omega) ?_;refine bU (.int .u64 ((8 * l.length : Nat) : Int)) rfl rfl rfl rfl rfl ?_;refine bI λw14 hw14=>hK11 _ _ ?_;refine aM λK12 hK12=>?_;refine aM λK13 hK13=>?_;refine dB ?_;refine aK (.slice (some ⟨gl,0,none⟩) 8 8) rfl rfl rfl rfl rfl ?_;refine Co (some ⟨gl,0,none⟩) 8 8 (by decide) rfl rfl rfl rfl rfl ?_;refine oS 8 1 7 rfl rfl rfl rfl rfl rfl (by decide) ?_;refine bU (.int .i64 7) rfl rfl rfl rfl rfl ?_;refine bI λw15 hw15=>?_;refine dT (E':=E7 l.length c0 A0 gn A11 (By (pad l Z)).length c11 gl (8 * l.length) 7) ⟨rfl,rfl,rfl,rfl,rfl,rfl,rfl,rfl,rfl,trivial⟩ ?_;refine hK13 _ _ ?_;refine dK ?_;refine NW A11 c11 gl (8 * l.length) (by omega) (pad l Z) ((hU13.step hw14).step hw15) hz13 hne13 ((hG13.up hw14).up hw15) ((hV13.up hw14).up hw15) λw16 hU16 hG16 hV16=>?_;refine hK12 _ _ ?_;refine aM λK14 hK14=>?_;refine eQ ?_;refine nP (.slice A11 (By (pad l Z)).length c11) rfl rfl rfl rfl rfl ?_
 refine nP (.slice (some ⟨gl,0,none⟩) 8 8) rfl rfl rfl rfl rfl ?_;have hpl:=Eo l Z;refine B9 (bytes:=1) (z:=.int .u8 0) (news:=By (lq (8 * l.length))) (base:=wN.heap.size) (e:=5) (xs:=By (pad l Z)) (A:=A11) (c:=c11) (ad:=⟨gl,0,none⟩) (m:=8) (d:=8) rfl rfl rfl rfl rfl rfl Tryd.underlying37 lQ rfl hG16 (by rw [b6,EE]) (λj u hu=>by rw [k9,cW]; exact hV16.cell j u hu) (lJ _) (by rw [b6]; omega) (by rw [b6]; unfold maxLen; omega) hU16.size ?_
 intro A17 c17 w17 hG17 hgr17 _
 have hU17 : Up wN w17:=hG16.IM hU16 hgr17 hU16.size;rw [<-uT,BO l Z hZ hZ2] at hG17 ⊢
 have hML : (l ++ jG 64 (l.length % 64) (8 * l.length)).length = l.length + 9 + Z:=by
  rw [<-BO l Z hZ hZ2,aO,EE,Eo]
  omega
 have hsum:=KV l;generalize l ++ jG 64 (l.length % 64) (8 * l.length) = m at *
 rcases hG17.cut with ⟨_,_,h1⟩ | ⟨gm,rfl,hgm,hV17⟩
 ·have h2:=congrArg AW h1
  rw [b6,hML,qJ] at h2
  omega
 refine cP (.slice (some ⟨gm,0,none⟩) (By m).length c17) rfl rfl rfl rfl rfl ?_;refine bG ?_;refine hK14 _ _ ?_;rw [b6];refine aM λK15 hK15=>?_;refine eQ ?_;refine ID (K:=.i64) (z:=.int .u64 0) (bytes:=8) 8 rfl rfl rfl rfl rfl rfl Tryd.underlying98 z9 rfl (by decide) (by decide) ?_;have hUa:=(Up.refl w17).alloc (.cells (Us z8).toArray 49);have hV18:=VL.new w17 (Us z8) 49;have hN17:=hN4.up hU17;have hU17w : Up w w17:=hU4.step hU17
 have hB18 : uU w (w17.alloc (.cells (Us z8).toArray 49)) gm gn w17.heap.size m z8 :=
  ⟨hV17.up hUa,hN17.up hUa,hV18,hU17w.step hUa,⟨oW hV17.lt,oW hN17.lt⟩,hU17w.size⟩
 rw [show aD 8 (fD .u64 0) = Us z8 from rfl];generalize w17.alloc (.cells (Us z8).toArray 49) = w18 at *;generalize w17.heap.size = gh at *;refine cP (.slice (some ⟨gh,0,none⟩) 8 8) rfl rfl rfl rfl rfl ?_;refine bG ?_;refine hK15 _ _ ?_;refine aM λK16 hK16=>?_;refine aM λK17 hK17=>?_;refine dB ?_;refine aK (.slice (some ⟨gh,0,none⟩) 8 8) rfl rfl rfl rfl rfl ?_;refine Co (some ⟨gh,0,none⟩) 8 8 (by decide) rfl rfl rfl rfl rfl ?_;refine aK (.int .i64 0) rfl rfl rfl rfl rfl ?_;refine bI λw19 hw19=>?_;refine dT (E':=Px m.length c17 gm gn gh 0) ⟨rfl,rfl,rfl,rfl,rfl,rfl,rfl,rfl,trivial⟩ ?_;refine hK17 _ _ ?_;refine dK ?_;refine Oy m.length c17 (hB18.up hw19) λw20 hB20=>?_;refine hK16 _ _ ?_;refine aM λK18 hK18=>?_;refine aM λK19 hK19=>?_;refine dB ?_;refine bU (.int .i64 0) rfl rfl rfl rfl rfl ?_;refine bI λw21 hw21=>?_;refine dT (E':=Mc m.length c17 gm gn gh 0) ⟨rfl,rfl,rfl,rfl,rfl,rfl,rfl,trivial⟩ ?_;refine hK19 _ _ ?_;refine dK ?_;refine O5 c17 ((l.length + 9 + Z) / 64) uH GQ (by omega) (by omega) (hB20.up hw21) (λ_ _ d _ _ h=>by cases d <;> exact h) λw22 hB22=>?_;rw [<-hsum] at hB22;refine hK18 _ _ ?_;refine aM λK20 hK20=>?_;refine dB ?_;refine bU (.slice none 0 0) rfl rfl rfl rfl rfl ?_;refine bI λw23 hw23=>hK20 _ _ ?_;refine aM λK21 hK21=>?_;refine aM λK22 hK22=>?_;refine dB ?_;refine aK (.slice (some ⟨gh,0,none⟩) 8 8) rfl rfl rfl rfl rfl ?_;refine Co (some ⟨gh,0,none⟩) 8 8 (by decide) rfl rfl rfl rfl rfl ?_;refine aK (.int .i64 0) rfl rfl rfl rfl rfl ?_;refine bI λw24 hw24=>?_;refine dT (E':=Hp gh none 0 0 0) ⟨rfl,rfl,rfl,rfl,rfl,trivial⟩ ?_;refine hK22 _ _ ?_;refine dK ?_;have hB24:=(hB22.up hw23).up hw24;refine SR (wO:=w24) (ME b7 l).list rfl hB24.hh (Up.refl w24) λw25 A25 c25 hU25 hG25=>?_;rw [AF] at hG25 ⊢;refine hK21 _ _ ?_;refine aM λK23 hK23=>?_;refine dB ?_;refine aK (.slice A25 (By (eK b7 l)).length c25) rfl rfl rfl rfl rfl ?_;refine bU (.slice A25 (By (eK b7 l)).length c25) rfl rfl rfl rfl rfl ?_;refine bI λw26 hw26=>hK23 _ _ ?_;refine gI λa ha=>?_;have hbe : Up w w24:=hB24.be;exact bodyPost_ret (results_tmp rfl _ _ _) ha.defers ⟨A25,c25,congrArg l7 (ha.get 4 _ rfl),(hG25.less hbe.size).up hw26,(hbe.step hU25).step hw26⟩
noncomputable def lsu (k : Nat) : Code:=((Tryd.f20.body.map pA).getD [])[k]?.getD .skip
def FSu (gr : Nat) (P : Option Addr) (n pc : Nat) (A : Option Addr) (m c i : Nat) : List (Nat × Value) :=
  [(11,.int .i64 (i : Int)),(10,.int .i64 (n : Int)),(9,.slice P n pc),(3,.slice A m c),(2,.pointer (some ⟨gr,0,none⟩))]
theorem Nt {gr hi : Nat} {Q : Exit -> Act -> World -> Prop} {w0 w : World} (P : Option Addr) (ls : List (List UInt8)) (pc : Nat) (hn : ls.length <= 9223372036854775807) (hl : ls.flatten.length <= 70368744177664) (hP : oM w0 hi P ls) (hhi : hi <= w0.heap.size) (hU : Up w0 w)
  (hend : ∀ w' A c,Up w0 w' -> GS w' w0.heap.size 5 A c (By ls.flatten) -> kF (Q .normal) 32 (FSu gr P ls.length pc A (By ls.flatten).length c ls.length) w') :
  cF Tryd.prog (.loop (lsu 0)) (dX 0 Q) 32 (FSu gr P ls.length pc none 0 0 0) w:=by
 have hstart : cF Tryd.prog (.loop (lsu 0)) (dX 0 Q) 32 ((λs : Nat × Option Addr × Nat=>FSu gr P ls.length pc s.2.1 (By (ls.take s.1).flatten).length s.2.2 s.1) (0,none,0)) w:=by
  refine kB (m:=λs : Nat × Option Addr × Nat=>ls.length - s.1) (F:=λs : Nat × Option Addr × Nat=>FSu gr P ls.length pc s.2.1 (By (ls.take s.1).flatten).length s.2.2 s.1) (R:=λs w=>s.1 <= ls.length /\ Up w0 w /\ GS w w0.heap.size 5 s.2.1 s.2.2 (By (ls.take s.1).flatten)) ?_ (0,none,0) ⟨by omega,hU,GS.nil _ _ _⟩
  rintro ⟨i,A,c⟩ w ⟨hi',hU,hG⟩
  dsimp only at hi' hU hG ⊢
  conv=>arg 2; whnf
  refine aM λK1 hK1=>?_;refine dB ?_
  by_cases hil : i < ls.length
  ·refine fN (i : Int) (ls.length : Int) true rfl rfl rfl rfl rfl rfl (decide_eq_true (by omega)) ?_
   refine bI λw1 hw1=>hK1 _ _ ?_;refine aM λK2 hK2=>?_;refine cB true rfl ?_;refine eZ ?_;refine hK2 _ _ ?_;refine aM λK3 hK3=>?_;refine dK ?_;refine aM λK4 hK4=>?_;refine dB ?_;have hU1 : Up w0 w1:=a6 hU hw1;obtain ⟨ad,rfl,had,hcell⟩:=(hP.below hU1 hhi) (by omega);obtain ⟨X,d,hx,hsl⟩:=hcell i ls[i] (bC hil);have hflat:=LP ls i hil;have hle:=Q0 ls (i + 1);rw [hflat,aO] at hle;refine TK ad ls.length pc i hil rfl rfl rfl rfl rfl rfl ?_;refine Q7 (ad.add i) (.slice X ls[i].length d) rfl rfl rfl rfl rfl (λ_ k=>(k.cell (World.block_lt_of_cell? w1 _ hx)).trans hx) ?_;refine bU (.slice X ls[i].length d) rfl rfl rfl rfl rfl ?_;refine bI λw2 hw2=>hK4 _ _ ?_;have hG:=(hG.up hw1).up hw2;have hU2 : Up w0 w2:=a6 hU1 hw2
   have hR : RB w2 X d ls[i]:=by
    have h2:=hsl.below hw2 (jL hhi hU1.size)
    cases X with
    | none =>
     obtain ⟨h3,h4⟩:=h2.none_ rfl;exact .inl ⟨rfl,cQ h3,h4⟩
    | some ad'=>exact .inr ⟨ad',rfl,h2.cells ad' rfl⟩
   refine eQ ?_;refine nP (.slice A (By (ls.take i).flatten).length c) rfl rfl rfl rfl rfl ?_;refine nP (.slice X ls[i].length d) rfl rfl rfl rfl rfl ?_;refine N9 (xs:=(ls.take i).flatten) (l:=ls[i]) (X:=X) (d:=d) (c:=c) (A:=A) (base:=w0.heap.size) rfl rfl rfl rfl rfl rfl hG hR (by omega) hU2.size ?_
   intro A' c' w3 hG3 hgr
   have hU3 : Up w0 w3:=hG.IM hU2 hgr hU2.size;rw [<-hflat] at hG3 ⊢;refine cP (.slice A' (By (ls.take (i + 1)).flatten).length c') rfl rfl rfl rfl rfl ?_;refine bG ?_;refine hK3 _ _ ?_;refine dB ?_;refine gW (i : Int) 1 ((i + 1 : Nat) : Int) rfl rfl rfl rfl rfl rfl (by rw [i64_left,wrap64_in _ (by omega)]; omega) ?_;refine aK (.int .i64 ((i + 1 : Nat) : Int)) rfl rfl rfl rfl rfl ?_;refine bI λw5 hw5=>?_;exact gD (F:=λs : Nat × Option Addr × Nat=>FSu gr (some ad) ls.length pc s.2.1 (By (ls.take s.1).flatten).length s.2.2 s.1) (m:=λs : Nat × Option Addr × Nat=>ls.length - s.1) (R:=λs w=>s.1 <= ls.length /\ Up w0 w /\ GS w w0.heap.size 5 s.2.1 s.2.2 (By (ls.take s.1).flatten)) (s:=(i,A,c)) (i + 1,A',c') ⟨rfl,rfl,rfl,rfl,rfl,trivial⟩ ⟨xU hil,a6 hU3 hw5,hG3.up hw5⟩ (tI hil (lT i))
  ·refine fN (i : Int) (ls.length : Int) false rfl rfl rfl rfl rfl rfl (decide_eq_false (by omega)) ?_
   refine bI λw1 hw1=>hK1 _ _ ?_;refine aM λK2 hK2=>?_;refine cB false rfl ?_;refine kC ?_;refine nQ (id:=0) (Q:=Q) ?_
   obtain rfl : i = ls.length:=by omega
   rw [nB] at hG ⊢;exact dT (E':=FSu gr P ls.length pc A (By ls.flatten).length c ls.length) ⟨rfl,rfl,rfl,rfl,rfl,trivial⟩ (hend w1 A c (a6 hU hw1) (hG.up hw1))
 exact hstart
section
variable {ops : Array Oper} {Q : Exit -> Act -> World -> Prop} {N : Nat} {E : List (Nat × Value)} {w : World} {o : Oper} {rest : List Oper} {k : Nat}
theorem GI {ty : TypeId} (zs : Array Value) (hg : o.guard = none) (hd : o.dst = some k) (hk : aQ k N = true) (ho : o.op = .alloc ty) (hz : (Tryd.prog.info? ty).bind (λi=>i.zero.map (·.cells)) = some zs)
  (hn : lF Tryd.prog ops Q rest N ((k,.pointer (some ⟨w.heap.size,0,none⟩)) :: E) (w.alloc (.cells zs ty))) : lF Tryd.prog ops Q (o :: rest) N E w :=
 nH _ hg hd hk (λa _=>c9 ho hz a w) hn
theorem Tk {x : Operand} (p : Option Addr) (n c : Nat) (hg : o.guard = none) (hd : o.dst = some k) (hk : aQ k N = true) (ho : o.op = .call { callee:=.builtin .len,args:=#[x],argTypes:=#[37] }) (hx : ev E x = some (.slice p n c))
  (hn : lF Tryd.prog ops Q rest N ((k,.int .i64 (n : Int)) :: E) w) : lF Tryd.prog ops Q (o :: rest) N E w :=
 nH _ hg hd hk (λa ha=>by
  have h1:=ha.eval hx
  unfold execOp
  simp only [ho,resolve,invoke,builtin,aJ,aI,aG,eD,cH,gK,h1]
  go_simp) hn
theorem Ti {x : Operand} (g : Nat) (l : List UInt8) (hl : l.length = 32) (hg : o.guard = none) (hd : o.dst = some k) (hk : aQ k N = true) (ho : o.op = .load 24 x) (hx : ev E x = some (.pointer (some ⟨g,0,none⟩))) (hb : Blk w g 24 (By l).toArray)
  (hn : lF Tryd.prog ops Q rest N ((k,.agg (By l).toArray) :: E) w) : lF Tryd.prog ops Q (o :: rest) N E w:=λa ha =>
 wpList_load_row hg 24 x ho g (ha.eval hx) 24 (By l).toArray (0,0) _ hb Tryd.underlying24 rfl (fC (By l).toArray (iY hl)) (by rw [hd]; exact hn _ (ha.put hk _))
theorem N5 {ty : TypeId} {p x : Operand} (g : Nat) (cs old : Array Value) (hg : o.guard = none) (hd : o.dst = none) (ho : o.op = .store ty p x) (hp : ev E p = some (.pointer (some ⟨g,0,none⟩))) (hx : ev E x = some (.agg cs)) (hb : Blk w g ty old) (hi : (Tryd.prog.info? ty).map (·.size) = some cs.size) (hos : old.size = cs.size) (h1 : ∀ v ∈ cs.toList,v.oneCell' = true)
  (hn : lF Tryd.prog ops Q rest N E (w.setRow g cs)) : lF Tryd.prog ops Q (o :: rest) N E w:=λa ha =>
 wpList_store_row hg ty p x ho g (ha.eval hp) cs (ha.eval hx) ty old hb hi hos h1 (by rw [hd]; exact hn _ ha)
end
section
variable {ops : Array Oper} {C0 : World -> Prop} {Q : Act -> Prop} {N : Nat} {E : List (Nat × Value)} {o : Oper} {rest : List Oper} {k : Nat}
theorem TL {x y : Operand} (g i : Nat) (hi : i < 32) (hg : o.guard = none) (hd : o.dst = some k) (hk : aQ k N = true) (ho : o.op = .indexAddr 24 x y)
  (hx : ev E x = some (.pointer (some ⟨g,0,none⟩))) (hy : ev E y = some (.int .i64 (i : Int))) (hn : bF Tryd.prog ops C0 Q rest N ((k,.pointer (some ⟨g,i,none⟩)) :: E)) : bF Tryd.prog ops C0 Q (o :: rest) N E :=
 dM _ hg hd hk (λa ha w _=>by
  have h1:=ha.eval hx;have h2:=ha.eval hy
  have h3 : (i : Int) < 32:=by omega
  have h4 : (0 : Int) <= (i : Int):=by omega
  unfold execOp
  simp only [ho,h1,h2]
  go_simp) hn
end
theorem uM {B : Nat} {w0 w w' : World} (h : Below B w0 w) (hB : B <= w.heap.size) (k : Up w w') : Below B w0 w':=Below.trans h (Below.mono k hB)
theorem wJ (m : List UInt8) : (eK b7 m).length = 32:=by
 rw [<-AF,BW (aF 8)]
def FC (gr g6 gd n c i : Nat) : List (Nat × Value) :=
  [(22,.int .i64 (i : Int)),(21,.int .i64 (n : Int)),(20,.slice (some ⟨gd,0,none⟩) n c),(6,.pointer (some ⟨g6,0,none⟩)),(2,.pointer (some ⟨gr,0,none⟩))]
theorem TT {gr g6 gd B : Nat} {Q : Exit -> Act -> World -> Prop} {w0 w : World} (c : Nat) (D : List UInt8) (hD : D.length = 32) (hne : g6 ≠ gr) (hne2 : g6 ≠ gd) (hB : B <= g6) (hV : VL w gd (By D)) (hr : Blk w gr 24 z32) (h6 : Blk w g6 24 (By (fb D 0)).toArray) (hbe : Below B w0 w)
  (hend : ∀ w',Blk w' gr 24 z32 -> Blk w' g6 24 (By D).toArray -> Below B w0 w' -> kF (Q .normal) 32 (FC gr g6 gd 32 c 32) w') :
  cF Tryd.prog (.loop (lsu 1)) (dX 2 Q) 32 (FC gr g6 gd 32 c 0) w:=by
 refine kB (m:=λi : Nat=>32 - i) (F:=FC gr g6 gd 32 c) (R:=λi w=>i <= 32 /\ VL w gd (By D) /\ Blk w gr 24 z32 /\ Blk w g6 24 (By (fb D i)).toArray /\ Below B w0 w) ?_ 0 ⟨by omega,hV,hr,h6,hbe⟩
 rintro i w ⟨hi,hV,hr,h6,hbe⟩
 conv=>arg 2; whnf
 refine aM λK1 hK1=>?_;refine dB ?_
 by_cases hil : i < 32
 ·refine fN (i : Int) 32 true rfl rfl rfl rfl rfl rfl (decide_eq_true (by omega)) ?_
  refine bI λw1 hw1=>hK1 _ _ ?_;refine aM λK2 hK2=>?_;refine cB true rfl ?_;refine eZ ?_;refine hK2 _ _ ?_;refine aM λK3 hK3=>?_;refine dK ?_;refine aM λK4 hK4=>?_;refine dB ?_;have hV:=hV.up hw1;have hr:=hw1.blk hr;have h60:=h6;have h6:=hw1.blk h6;have hbe:=uM hbe (fA (bR hB h60.lt)) hw1;have cy:=hV.byte (j:=i) (by omega);have hset:=IW D (n:=i);have hl:=IX D i;generalize D[i]! = y at *;refine aK (.int .i64 (i : Int)) rfl rfl rfl rfl rfl ?_;refine dD gd 32 c i hil (by decide) rfl rfl rfl rfl rfl rfl ?_;refine cX ⟨gd,i,none⟩ (.int .u8 (y.toNat : Int)) (by decide) rfl rfl rfl rfl rfl (λ_ k=>(k.cell hV.lt).trans cy) ?_;refine bU (.int .i64 (i : Int)) rfl rfl rfl rfl rfl ?_;refine bU (.int .u8 (y.toNat : Int)) rfl rfl rfl rfl rfl ?_;refine bI λw2 hw2=>hK4 _ _ ?_;have hV:=hV.up hw2;have hr:=hw2.blk hr;have h61:=h6;have h6:=hw2.blk h6;have hbe:=uM hbe (fA (bR hB h61.lt)) hw2;have c6:=(h6.cell i).trans (fU (by omega));have f6:=h6.free i;have h62:=h6.lt;refine k8 3 ?_;simp only [a9,bN];refine aK (.int .i64 (i : Int)) rfl rfl rfl rfl rfl ?_;refine aK (.int .u8 (y.toNat : Int)) rfl rfl rfl rfl rfl ?_;refine TL g6 i hil rfl rfl rfl rfl rfl rfl ?_;refine mA ⟨g6,i,none⟩ (y.toNat : Int) _ (.inr ⟨rfl,rfl⟩) rfl rfl rfl rfl rfl c6 f6 h6.lt λw3 hw3=>?_;have hV:=(hV.up hw3).far (p:=⟨g6,i,none⟩) (Ne.symm hne2) (.int .u8 (y.toNat : Int));have hr:=(hw3.blk hr).far (p:=⟨g6,i,none⟩) (Ne.symm hne) (.int .u8 (y.toNat : Int));have h6:=(hw3.blk h6).set i (.int .u8 (y.toNat : Int));have hbe:=(uM hbe (fA (bR hB h62)) hw3).setCell (p:=⟨g6,i,none⟩) hB (.int .u8 (y.toNat : Int))
  have hset2 : (By (fb D i)).toArray.setIfInBounds i (.int .u8 (y.toNat : Int)) = (By (fb D (i + 1))).toArray:=by
   rw [<-hset,List.setIfInBounds_toArray,PC]
  rw [hset2] at h6;generalize w3.setCell ⟨g6,i,none⟩ (.int .u8 (y.toNat : Int)) = w4 at *;refine hK3 _ _ ?_;refine dB ?_;refine gW (i : Int) 1 ((i + 1 : Nat) : Int) rfl rfl rfl rfl rfl rfl (by rw [i64_left,wrap64_in _ (by omega)]; omega) ?_;refine aK (.int .i64 ((i + 1 : Nat) : Int)) rfl rfl rfl rfl rfl ?_;exact bI λw5 hw5=>gD (i + 1) ⟨rfl,rfl,rfl,rfl,rfl,trivial⟩ ⟨by omega,hV.up hw5,hw5.blk hr,hw5.blk h6,uM hbe (fA (bR hB h6.lt)) hw5⟩ (by omega)
 ·refine fN (i : Int) 32 false rfl rfl rfl rfl rfl rfl (decide_eq_false (by omega)) ?_
  refine bI λw1 hw1=>hK1 _ _ ?_;refine aM λK2 hK2=>?_;refine cB false rfl ?_;refine kC ?_;refine nQ (id:=2) (Q:=Q) ?_
  obtain rfl : i = 32:=by omega
  rw [IY hD] at h6;exact dT (E':=FC gr g6 gd 32 c 32) ⟨rfl,rfl,rfl,rfl,rfl,trivial⟩ (hend w1 (hw1.blk hr) (hw1.blk h6) (uM hbe (fA (bR hB h6.lt)) hw1))
theorem SK (P : Option Addr) (ls : List (List UInt8)) (pc : Nat) (hn : ls.length <= 9223372036854775807) (hl : ls.flatten.length <= 70368744177664) (w : World) (hP : oM w w.heap.size P ls) :
  Calls Tryd.prog 20 #[.slice P ls.length pc] w λe w'=>e = .returned (.agg (By (eK b7 ls.flatten)).toArray) /\ Below w.heap.size w w':=by
 refine calls_of_wp Tryd.func20 rfl ?_;refine (?_ : cF Tryd.prog _ _ 32 [(0,.slice P ls.length pc)] w) _ (Fr.start (by rw [Tryd.ntmps20]; rfl) _ ?_)
 rotate_left
 ·intro k v hk
  rw [fL] at hk
  split at hk
  ·rename_i e
   subst e
   cases hk
   rfl
  ·cases hk
 refine aM λK0 hK0=>?_;refine eQ ?_;refine GI z32 rfl rfl rfl rfl (by kernel_rfl) ?_;have hU0:=(Up.refl w).alloc (.cells z32 24);have hb0:=Blk.new w 24 z32;have hlt:=hb0.lt;generalize w.alloc (.cells z32 24) = wr at *;generalize hgr : w.heap.size = gr at *;refine bG ?_;refine hK0 _ _ ?_;refine aM λK1 hK1=>?_;refine dB ?_;refine bU (.slice none 0 0) rfl rfl rfl rfl rfl ?_;refine bI λw1 hw1=>hK1 _ _ ?_;refine aM λK2 hK2=>?_;refine aM λK3 hK3=>?_;refine dB ?_;refine aK (.slice P ls.length pc) rfl rfl rfl rfl rfl ?_;refine TH P ls.length pc rfl rfl rfl rfl rfl ?_;refine aK (.int .i64 0) rfl rfl rfl rfl rfl ?_;refine bI λw2 hw2=>?_;refine dT (E':=FSu gr P ls.length pc none 0 0 0) ⟨rfl,rfl,rfl,rfl,rfl,trivial⟩ ?_;refine hK3 _ _ ?_;refine dK ?_;have hU2 : Up wr w2:=a6 hw1 hw2;have hPr : oM wr gr P ls:=hP.below hU0 (by omega);refine Nt (w0:=wr) P ls pc hn hl hPr (fA hlt) hU2 λw3 A c hU3 hG3=>?_;refine hK2 _ _ ?_;refine aM λK4 hK4=>?_;refine eQ ?_;refine GI z32 rfl rfl rfl rfl (by kernel_rfl) ?_;have hb3 : Blk w3 gr 24 z32:=hU3.blk hb0;have hUa:=(Up.refl w3).alloc (.cells z32 24);have hb6:=Blk.new w3 24 z32;have hne : w3.heap.size ≠ gr:=Nat.ne_of_gt hb3.lt;have hG4:=hG3.up hUa;have hb4:=hUa.blk hb3;have hU4 : Up wr (w3.alloc (.cells z32 24)):=a6 hU3 hUa;have hg6 : gr <= w3.heap.size:=fA hb3.lt;generalize w3.alloc (.cells z32 24) = w4 at *;generalize w3.heap.size = g6 at *;refine bG ?_;refine hK4 _ _ ?_;refine aM λK5 hK5=>?_;refine aM λK6 hK6=>?_;refine eQ ?_;refine nP (.slice A (By ls.flatten).length c) rfl rfl rfl rfl rfl ?_
 have hR : RB w4 A c ls.flatten:=by
  rcases hG4.cut with ⟨h1,h2,h3⟩ | ⟨g,h1,h2,h3⟩
  ·have h4:=congrArg AW h3
   rw [b6] at h4;exact .inl ⟨h1,cQ h4,h2⟩
  ·exact .inr ⟨_,h1,λj v hj=>by rw [k9,cW]; exact h3.cell j v hj⟩
 rw [b6];refine N8 #[.slice A ls.flatten.length c,.int .u64 32] rfl rfl rfl Gc (I7 A c ls.flatten hl w4 hR) rfl rfl ?_
 rintro e w5 ⟨A5,c5,rfl,hG5,hb5⟩
 refine ⟨_,rfl,?_⟩;have hDl:=wJ ls.flatten;generalize eK b7 ls.flatten = D at *;rw [b6,hDl];refine Tk A5 32 c5 rfl rfl rfl rfl rfl ?_;refine nP (.int .i64 0) rfl rfl rfl rfl rfl ?_;refine bG ?_
 rcases hG5.cut with ⟨_,_,h1⟩ | ⟨gd,rfl,hgd,hV5⟩
 ·have h2:=congrArg AW h1
  rw [b6,hDl,qJ] at h2
  omega
 have hne2 : g6 ≠ gd:=oW (bB hb6.lt hgd);refine dT (E':=FC gr g6 gd 32 c5 0) ⟨rfl,rfl,rfl,rfl,rfl,trivial⟩ ?_;refine hK6 _ _ ?_;refine dK ?_
 have hU0' : Below gr w wr:=by
  rw [<-hgr];exact hU0
 have hbw : Below gr w w5:=Below.trans hU0' (Below.mono (a6 hU4 hb5) (fA hlt));refine TT (B:=gr) (w0:=w) c5 D hDl hne hne2 hg6 hV5 (hb4.below hb5 hb4.lt) (by rw [ER]; exact hb6.below hb5 hb6.lt) hbw λw6 hr6 h66 hbe6=>?_;refine hK5 _ _ ?_;refine aM λK7 hK7=>?_;refine eQ ?_;refine Ti g6 D hDl rfl rfl rfl rfl rfl h66 ?_;have hz:=iY hDl;refine N5 gr (By D).toArray z32 rfl rfl rfl rfl rfl hr6 (fC _ hz) (by rw [hz]; rfl) (lJ _) ?_;refine bG ?_;refine hK7 _ _ ?_;refine gI λa ha=>?_;exact bodyPost_ret (results_cell_row rfl _ _ gr 24 (By D).toArray (0,0) _ (ha.get 2 _ rfl) (hr6.row _) Tryd.underlying24 rfl (fC _ hz)) ha.defers ⟨rfl,below_setRow hbe6 (aF _) _⟩
end Go.Proofs.YtfkchihlchlfdaaDoor
namespace Nums
def xsl (s : Sha) (b : List UInt8) : Nat -> List Nat
  | 0=>[]
  | t + 1=>sx s b t :: xsl s b t
theorem xV (s : Sha) (b : List UInt8) : ∀ t,(xsl s b t).length = t
 | 0=>rfl
 | t + 1=>by rw [xsl,bW,xV]
theorem zI (s : Sha) (b : List UInt8) : ∀ t j,j < t -> (xsl s b t)[j]! = sx s b (t - 1 - j)
 | 0,_,h=>absurd h (by omega)
 | t + 1,0,_=>by
  show (sx s b t :: xsl s b t)[0]! = _
  rw [Nat.add_sub_cancel,Nat.sub_zero]
  rfl
 | t + 1,j + 1,h=>by
  show (sx s b t :: xsl s b t)[j + 1]! = _
  have e : (sx s b t :: xsl s b t)[j + 1]! = (xsl s b t)[j]!:=by simp
  rw [e,zI s b t j (by omega)]
  congr 1
  omega
def EP (s : Sha) (b : List UInt8) : Nat -> List Nat
  | 0=>[]
  | t + 1=>forced (Hf s b t) λv=>v :: EP s b t
theorem DL (s : Sha) (b : List UInt8) : ∀ t,t <= 16 -> EP s b t = xsl s b t
 | 0,_=>rfl
 | t + 1,h=>by
  have e : sx s b t = Hf s b t:=by rw [sx,dif_pos (by omega)]
  rw [EP,pI,xsl,DL s b t (by omega),e]
def grow (s : Sha) : Nat -> List Nat -> List Nat
  | 0,L=>L
  | k + 1,L=>forced ((o9 s.w s.IC L[1]! + L[6]! + o9 s.w s.low0 L[14]! + L[15]!) % 2 ^ s.w) λv=>grow s k (v :: L)
theorem Ke (s : Sha) (b : List UInt8) : ∀ k t,16 <= t -> grow s k (xsl s b t) = xsl s b (t + k)
 | 0,_,_=>rfl
 | k + 1,t,h=>by
  have e : (o9 s.w s.IC (xsl s b t)[1]! + (xsl s b t)[6]! + o9 s.w s.low0 (xsl s b t)[14]! + (xsl s b t)[15]!) % 2 ^ s.w = sx s b t:=by
   rw [zI s b t 1 (by omega),zI s b t 6 (by omega),zI s b t 14 (by omega),zI s b t 15 (by omega)]
   conv=>rhs; rw [sx,dif_neg (by omega)]
   rw [show t - 1 - 1 = t - 2 from by omega,show t - 1 - 6 = t - 7 from by omega,show t - 1 - 14 = t - 15 from by omega,show t - 1 - 15 = t - 16 from by omega]
  rw [grow,pI,e];have h2:=Ke s b k (t + 1) (by omega);rw [xsl] at h2;rw [h2]
  congr 1
  omega
def P9 (s : Sha) : List Nat -> Nat -> Oct -> Oct
  | [],_,o=>o
  | x :: r,t,o=>forced (t1w s (s.k t) x o) λT=>forced ((T + t2w s o) % 2 ^ s.w) λA=>forced ((o.d + T) % 2 ^ s.w) λE=>P9 s r (t + 1) ⟨A,o.a,o.b,o.c,E,o.e,o.f,o.g⟩
theorem JP (s : Sha) (b : List UInt8) (o : Oct) : ∀ (l : List Nat) (t : Nat),(∀ j x,l[j]? = some x -> x = sx s b (t + j)) -> P9 s l t (nO s b o t) = nO s b o (t + l.length)
 | [],_,_=>rfl
 | x :: r,t,h=>by
  have hx:=h 0 x rfl;rw [fJ] at hx;subst hx;rw [P9];simp only [pI];have h2:=JP s b o r (t + 1) (λj x hj=>by rw [h (j + 1) x (by simpa using hj)]; congr 1; omega);rw [show nO s b o (t + 1) = rnd s (s.k t) (sx s b t) (nO s b o t) from rfl] at h2;rw [show t + (sx s b t :: r).length = t + 1 + r.length from by rw [bW]; omega,<-h2]
  rfl
def Pn (w : Nat) (o q : Oct) : Oct :=
  forced ((o.a + q.a) % 2 ^ w) λa=>forced ((o.b + q.b) % 2 ^ w) λb=>forced ((o.c + q.c) % 2 ^ w) λc=>forced ((o.d + q.d) % 2 ^ w) λd =>
  forced ((o.e + q.e) % 2 ^ w) λe=>forced ((o.f + q.f) % 2 ^ w) λf=>forced ((o.g + q.g) % 2 ^ w) λg=>forced ((o.h + q.h) % 2 ^ w) λh=>⟨a,b,c,d,e,f,g,h⟩
theorem Pm (w : Nat) (o q : Oct) : Pn w o q = CB w o q:=by
 unfold Pn
 simp only [pI]
 rfl
def MA (s : Sha) (o : Oct) (b : List UInt8) : Oct:=Pn s.w o (P9 s (grow s (s.n - 16) (EP s b 16)).reverse 0 o)
theorem Mz {s : Sha} (hn : 16 <= s.n) (o : Oct) (b : List UInt8) : MA s o b = iA s o b:=by
 rw [MA,Pm,iA,DL s b 16 (aF _),Ke s b _ 16 (aF _),show 16 + (s.n - 16) = s.n from by omega]
 congr 1
 have h:=JP s b o (xsl s b s.n).reverse 0 (λj x hj=>by
  have hl : j < (xsl s b s.n).reverse.length:=(List.getElem?_eq_some_iff.1 hj).1;rw [lZ,xV] at hl;rw [List.getElem?_reverse (by rw [xV]; exact hl),xV] at hj;have h1:=zI s b s.n (s.n - 1 - j) (by omega);rw [C3,hj] at h1;rw [show 0 + j = s.n - 1 - (s.n - 1 - j) from by omega,<-h1]
  rfl)
 rw [lZ,xV,cW] at h;exact h
def MW (s : Sha) (B : Nat) : Nat -> Oct -> List UInt8 -> Oct
  | 0,o,_=>o
  | k + 1,o,l=>MW s B k (MA s o (l.take B)) (l.drop B)
theorem JM {s : Sha} {B : Nat} (hB : 0 < B) (hn : 16 <= s.n) : ∀ k o l,l.length = k * B -> MW s B k o l = jQ s B o l
 | 0,o,l,h=>by
  have h0 : l = []:=cQ (by omega);subst h0;rw [MW,iX (by simpa using hB)]
 | k + 1,o,l,h=>by
  have hl : (l.take B).length = B:=by rw [aZ,h,rH]; omega
  have hd : (l.drop B).length = k * B:=by rw [List.length_drop,h,rH]; omega
  rw [MW,Mz hn,JM hB hn k _ _ hd]
  conv=>rhs; rw [<-fQ B l,lD hB hl]
def Ks (s : Sha) (n : Nat) (m : List UInt8) : List UInt8 :=
  ((MW s (2 * s.w) n ⟨s.start[0]!,s.start[1]!,s.start[2]!,s.start[3]!,s.start[4]!,s.start[5]!,s.start[6]!,s.start[7]!⟩ (m ++ jG (2 * s.w) (m.length % (2 * s.w)) (8 * m.length))).list.map (m9 s)).flatten
theorem Ah {s : Sha} (n : Nat) (m : List UInt8) (hw : 0 < 2 * s.w) (hn : 16 <= s.n) (h : (m ++ jG (2 * s.w) (m.length % (2 * s.w)) (8 * m.length)).length = n * (2 * s.w)) : eK s m = Ks s n m:=by
 rw [eK,ME,Ks,JM hw hn n _ _ h]
end Nums
namespace Go.Proofs.YtfkchihlchlfdaaDoor
open Go.RowKit Go.IntWalk
end Go.Proofs.YtfkchihlchlfdaaDoor
namespace Go.Proofs.YtfkchihlchlfdaaDoor
open Go.RowKit
def row (k v : Nat) : Array Value:=(By (aD (8 - k) 0 ++ (be8 v).drop (8 - k))).toArray
theorem BE (v : Nat) : row 0 v = #[fD gP 0,fD gP 0,fD gP 0,fD gP 0,fD gP 0,fD gP 0,fD gP 0,fD gP 0]:=rfl
theorem Jp (k v : Nat) (h : k < 8) : ∃ u,(row k v)[7 - k]? = some (fD gP u):=by
 have : k = 0 \/ k = 1 \/ k = 2 \/ k = 3 \/ k = 4 \/ k = 5 \/ k = 6 \/ k = 7:=by omega
 rcases this with rfl | rfl | rfl | rfl | rfl | rfl | rfl | rfl <;> exact ⟨_,rfl⟩
theorem Ro (q : Nat) : fD gP ((q : Int) % 256) = fD gP ((aX q).toNat : Int):=by
 simp
theorem FR (k v : Nat) (h : k < 8) : (row k v).setIfInBounds (7 - k) (fD gP (((v / 256 ^ k : Nat) : Int) % 256)) = row (k + 1) v:=by
 have : k = 0 \/ k = 1 \/ k = 2 \/ k = 3 \/ k = 4 \/ k = 5 \/ k = 6 \/ k = 7:=by omega
 rw [Ro]
 rcases this with rfl | rfl | rfl | rfl | rfl | rfl | rfl | rfl <;> simp [row,By,be8,aD]
theorem F4 (k v : Nat) : v / 256 ^ k / 256 = v / 256 ^ (k + 1):=by rw [Nat.div_div_eq_div_mul,dE]
theorem D3 (cs : Array Value) (h : cs.size = 8) : (Tryd.prog.info? 70).map (·.size) = some cs.size:=by
 rw [h]
 kernel_rfl
theorem row_one (v : Nat) : ∀ u ∈ (row 8 v).toList,u.oneCell' = true:=lJ _
theorem J5 (v : Nat) (w : World) (hv : v < 18446744073709551616) :
  Calls Tryd.prog 34 #[.int .u64 v] w λe w'=>e = .returned (.agg (By (be8 v)).toArray) /\ Below w.heap.size w w':=by
 go_enter Tryd.func34,Tryd.ntmps34
 go_wp2
 go_loopw [0,4,5] (λq _ i wr=>∃ k : Nat,k <= 8 /\ i = .int .i64 k /\ q = .int .u64 ((v / 256 ^ k : Nat) : Int) /\ Blk wr (w.heap.size + 1) 70 (row k v) /\ Blk wr w.heap.size 70 (row 0 v) /\ Below w.heap.size w wr) (λ_ _ i _=>8 - (intOf i).toNat)
 case atStart =>
  refine ⟨0,by omega,rfl,by simp,?_,?_,?_⟩
  ·rw [BE]
   exact heap_alloc2_new w _ _
  ·rw [BE]
   exact heap_alloc2_old w _ _
  ·exact ((Below.refl _ _).alloc (aF _) _).alloc (by simp) _
 case round =>
  obtain ⟨k,hk,rfl,rfl,hb1,hb0,hbel⟩:=hrel
  by_cases hlt : k < 8
  ·obtain ⟨u,hu⟩:=Jp k v hlt
   have hc:=(hb1.cell (7 - k)).trans hu;have hf:=hb1.free (7 - k);have hq : v / 256 ^ k < 18446744073709551616:=bR (gJ _ _) hv;clear hu
   go_wp2
   go_roundw
   case rel =>
    refine ⟨k + 1,by omega,by go_num,?_,?_,?_,?_⟩
    ·rw [<-F4]
     simp
    ·rw [<-FR k v hlt]
     simpa using hb1.set (7 - k) _
    ·exact hb0.far (by simp) _
    ·exact hbel.setCell (by simp) _
   case measure=>simp [intOf]; omega
  ·obtain rfl : k = 8:=by omega
   go_wp2_with (first
    | (refine wpList_load_row rfl 70 _ rfl (w.heap.size + 1) rfl 70 (row 8 v) (0,0) _ hb1 Tryd.underlying70 rfl (D3 _ rfl) ?_)
    | (refine wpList_store_row rfl 70 _ _ rfl w.heap.size rfl (row 8 v) rfl 70 (row 0 v) hb0 (D3 _ rfl) rfl (row_one v) ?_))
   refine bodyPost_ret (results_cell_row rfl _ _ w.heap.size 70 (row 8 v) (0,0) _ rfl (hb0.row _) Tryd.underlying70 rfl (D3 _ rfl)) rfl ⟨rfl,?_⟩;exact below_setRow hbel (aF _) _
def pJ (ls : List (List UInt8)) : Nat:=ls.flatten.length
theorem C5 (ls : List (List UInt8)) (k : Nat) (h : k < ls.length) : (ls.take (k + 1)).flatten = (ls.take k).flatten ++ ls[k]:=by
 rw [List.take_succ_eq_append_getElem h,tC,o6,List.flatten_nil,cD]
theorem uY (ls : List (List UInt8)) (k : Nat) (h : k < ls.length) : pJ (ls.take (k + 1)) = pJ (ls.take k) + ls[k].length:=by
 unfold pJ
 rw [C5 ls k h,aO]
theorem Jo (ls : List (List UInt8)) (k : Nat) (h : k < ls.length) : pJ (ls.take k) + ls[k].length <= pJ ls:=by
 rw [<-uY ls k h]
 unfold pJ
 conv=>rhs; rw [<-fQ (k + 1) ls,tC,aO]
 omega
theorem RY : (Tryd.prog.info? 5).map (λi=>(i.zero,i.size,i.bytes)) = some (some (.int .u8 0),1,1):=by kernel_rfl
theorem GK (PA : Option Addr) (ls : List (List UInt8)) (pc hi : Nat) (w : World) (h : oM w hi PA ls) (hhi : hi <= w.heap.size) (hpc : ls.length <= pc) (hm : pc <= 9223372036854775807) (ht : pJ ls <= 281474976710656) :
  Calls Tryd.prog 25 #[.slice PA ls.length pc] w λe w'=>e = .returned (.slice (some ⟨w.heap.size,0,none⟩) (pJ ls) (pJ ls)) /\
   w'.ownsRow w.heap.size 5 1 (.slice (some ⟨w.heap.size,0,none⟩) (pJ ls) (pJ ls)) (pJ ls) (By ls.flatten) /\ Below w.heap.size w w':=by
 obtain ⟨i0,hi0,hz0,hz1,hz2⟩:=info_parts RY
 go_enter Tryd.func25,Tryd.ntmps25
 go_wp2
 go_loop [3,5,11] (λs _ i=>∃ k : Nat,k <= ls.length /\ i = .int .i64 k /\ s = .int .i64 (pJ (ls.take k))) (λ_ _ i=>ls.length - (intOf i).toNat)
 case atStart=>exact ⟨0,dC _,rfl,rfl⟩
 case round =>
  obtain ⟨k,hk,rfl,rfl⟩:=hrel
  by_cases hlt : k < ls.length
  ·obtain ⟨ad,rfl,_,hcell⟩:=h (by omega)
   obtain ⟨A',c',hx,hsl⟩:=hcell k ls[k] (bC hlt);have hle:=Jo ls k hlt;have hl1:=hsl.1;have hl2:=hsl.2.1;clear hcell hsl
   go_wp2
   go_round
   case rel=>exact ⟨k + 1,by omega,by go_num,by rw [uY ls k hlt]; go_num⟩
   case measure=>simp [intOf]; omega
  ·obtain rfl : k = ls.length:=by omega
   have H:=aH ht;rw [nB]
   go_wp2_with (at_make; refine wpList_make_own _ rfl _ _ 37 rfl w.heap.size 5 i0 _ 1 Tryd.underlying37 hi0 hz0 hz1 .i64 .i64 _ (pJ ls) rfl rfl rfl (by rw [hz2]; have:=H.out; omega) (by have:=H.out; unfold maxLen; omega) (aF _) ?_; intro w1 hown1 hg1)
   have hb1 : Below w.heap.size w w1:=(Below.refl _ _).grown hg1 (aF _) (by simp);clear hg1
   go_loopw [6,8,24] (λv _ i wr=>∃ k : Nat,k <= ls.length /\ i = .int .i64 k /\ v = .slice (some ⟨w.heap.size,0,none⟩) (pJ (ls.take k)) (pJ ls) /\
    wr.ownsRow w.heap.size 5 1 (.slice (some ⟨w.heap.size,0,none⟩) (pJ (ls.take k)) (pJ ls)) (pJ (ls.take k)) (By (ls.take k).flatten) /\ Below w.heap.size w wr) (λ_ _ i _=>ls.length - (intOf i).toNat)
   case atStart=>exact ⟨0,dC _,rfl,rfl,hown1,hb1⟩
   case round =>
    obtain ⟨k,hk,rfl,rfl,hown,hb⟩:=hrel
    by_cases hlt : k < ls.length
    ·obtain ⟨ad,rfl,_,hcell⟩:=h.below hb hhi (by omega)
     obtain ⟨A',c',hx,hsl⟩:=hcell k ls[k] (bC hlt);have hle:=Jo ls k hlt;have hn:=hsl.none_;have hcs:=hsl.cells;have HN:=aH hn;have HC:=aH hcs;have HL:=aH hown;clear hcell hsl hn hcs hown
     go_wp2_with (at_builtin; refine wpList_append_fits_any _ rfl (.tmp 28) (.tmp 29) 37 rfl w.heap.size 5 i0 1 Tryd.underlying37 hi0 hz1 w.heap.size (pJ (ls.take k)) (pJ ls) _ rfl HL.out A' ls[k].length c' (By ls[k]) rfl (by rw [b6,Fc]) HN.out HC.out (lJ _) hle ?_; intro w2 hown2 hg2)
     go_roundw
     case rel =>
      rw [<-uT,<-C5 ls k hlt,<-uY ls k hlt] at hown2;exact ⟨k + 1,by omega,by go_num,by rw [uY ls k hlt],hown2,hb.grown hg2 hb.size (by intro x hx; injection hx with hx; omega)⟩
     case measure=>simp [intOf]; omega
    ·obtain rfl : k = ls.length:=by omega
     rw [nB] at hown ⊢
     go_wp2
     go_ret
     exact ⟨rfl,hown,hb⟩
theorem Gk {w : World} {base base' size n : Nat} {e : TypeId} {v : Value} {xs : List Value} (h : w.ownsRow base e size v n xs) (hb : base' <= base) : w.ownsRow base' e size v n xs:=by
 obtain ⟨h1,h2⟩:=h;refine ⟨h1,?_⟩
 rcases h2 with h2 | ⟨g,cap,cur,hv,hg,r⟩
 ·exact .inl h2
 ·exact .inr ⟨g,cap,cur,hv,by omega,r⟩
def Made (w : World) (l : List UInt8) (e : Ending) (w' : World) : Prop :=
  ∃ g,e = .returned (.slice (some ⟨g,0,none⟩) l.length l.length) /\ w'.ownsRow w.heap.size 5 1 (.slice (some ⟨g,0,none⟩) l.length l.length) l.length (By l) /\ Below w.heap.size w w'
theorem SL.blk {w : World} {g t lo hi : Nat} {l : List UInt8} (h : Blk w g t (By l).toArray) (h1 : lo <= g) (h2 : g < hi) (hm : l.length <= 9223372036854775807) : SL w lo hi (some ⟨g,0,none⟩) l l.length :=
 ⟨aF _,hm,λh=>(by cases h),λ_=>⟨_,rfl,h1,h2,λj x hx=>by
  have hadd : (⟨g,0,none⟩ : Addr).add j = ⟨g,j,none⟩:=by unfold Addr.add; split <;> simp_all
  rw [hadd,h.cell]
  simp [By,hx]⟩⟩
theorem Ip {w : World} {hi : Nat} {ls : List (List UInt8)} {vs : List Value} (hhi : hi <= w.heap.size)
  (h : ∀ (i : Nat) l,ls[i]? = some l -> ∃ A c,vs[i]? = some (.slice A l.length c) /\ SL w 0 hi A l c) :
  oM (w.alloc (.cells vs.toArray 37)) (w.heap.size + 1) (some ⟨w.heap.size,0,none⟩) ls:=λ_=>by
 refine ⟨_,rfl,by simp,λi l hi'=>?_⟩;obtain ⟨A,c,h1,h2⟩:=h i l hi';refine ⟨A,c,?_,(h2.alloc _ hhi).more (aF _) (by omega)⟩
 have hadd : (⟨w.heap.size,0,none⟩ : Addr).add i = ⟨w.heap.size,i,none⟩:=by unfold Addr.add; split <;> simp_all
 rw [hadd,(Blk.new w 37 vs.toArray).cell]
 simpa using h1
theorem LM (w wz : World) (PA : Option Addr) (n hi : Nat) (ls : List (List UInt8)) (hn : ls.length = n) (h : oM wz hi PA ls) (hhi : hi <= wz.heap.size) (hm : n <= 9223372036854775807) (ht : pJ ls <= 281474976710656) (hb : Below w.heap.size w wz) :
  Calls Tryd.prog 25 #[.slice PA n n] wz (Made w ls.flatten):=by
 subst hn;refine (GK PA ls ls.length hi wz h hhi (aF _) hm ht).mono λe w' ⟨he,ho,hb'⟩=>?_;exact ⟨wz.heap.size,he,Gk ho hb.size,hb.trans (hb'.mono hb.size)⟩
theorem L6 (A X : Option Addr) (l x : List UInt8) (c d hi : Nat) (w : World) (h : SL w 0 hi A l c) (hx : SL w 0 hi X x d) (hhi : hi <= w.heap.size) (hl : l.length + 8 + x.length <= 281474976710656) :
  Calls Tryd.prog 44 #[.slice A l.length c,.slice X x.length d] w (Made w (l ++ be8 x.length ++ x)):=by
 have hxl : x.length < 18446744073709551616:=by omega
 go_enter Tryd.func44,Tryd.ntmps44
 go_wp2_with (fail)
 refine (J5 x.length w hxl).mono ?_
 rintro e w1 ⟨rfl,hb1⟩
 have h1 : Blk (w1.alloc (gM (row 0 0) 70)) w1.heap.size 70 (row 0 0):=Blk.new w1 70 (row 0 0);have hbz:=below_setRow (hb1.alloc hb1.size (gM (row 0 0) 70)) hb1.size (By (be8 x.length)).toArray;have hs1 : SL ((w1.alloc (gM (row 0 0) 70)).setRow w1.heap.size (By (be8 x.length)).toArray) 0 (w1.heap.size + 1) (some ⟨w1.heap.size,0,none⟩) (be8 x.length) 8:=SL.blk (h1.row _) (dC _) (by omega) (by rw [mW]; omega);have hs2:=(h.below hbz hhi).more (aF 0) (show hi <= w1.heap.size + 1 by have:=hb1.size; omega);have hs3:=(hx.below hbz hhi).more (aF 0) (show hi <= w1.heap.size + 1 by have:=hb1.size; omega)
 have hp:=Ip (w:=(w1.alloc (gM (row 0 0) 70)).setRow w1.heap.size (By (be8 x.length)).toArray) (hi:=w1.heap.size + 1) (ls:=[l,be8 x.length,x]) (vs:=[.slice A l.length c,.slice (some ⟨w1.heap.size,0,none⟩) 8 8,.slice X x.length d]) (by simp) (by
  intro i y hy
  match i,hy with
  | 0,hy=>injection hy with hy; subst hy; exact ⟨_,_,rfl,hs2⟩
  | 1,hy=>injection hy with hy; subst hy; exact ⟨_,_,rfl,hs1⟩
  | 2,hy=>injection hy with hy; subst hy; exact ⟨_,_,rfl,hs3⟩)
 have hbq:=hbz.alloc hbz.size (gM #[.slice A l.length c,.slice (some ⟨w1.heap.size,0,none⟩) 8 8,.slice X x.length d] 37);simp only [aW,size_setRow] at hp;rw [BE] at h1 hp hbq;have hJ:=LM w _ _ 3 _ [l,be8 x.length,x] rfl hp (by simp) (by omega) (by unfold pJ; simp [mW]; omega) hbq;have HJ:=aH hJ;clear hJ hp hbq hs1 hs2 hs3 hbz
 go_wp2_with (refine wpList_store_row rfl 70 _ _ rfl w1.heap.size rfl (By (be8 x.length)).toArray rfl 70 _ h1 (D3 _ rfl) rfl (lJ _) ?_)
 refine HJ.out.mono ?_
 rintro e w2 ⟨g,rfl,ho,hb2⟩
 go_wp2
 go_ret
 exact ⟨g,by simp [mW],by simpa [mW,aU] using ho,hb2⟩
theorem BH (v : Nat) (w : World) (hv : v < 18446744073709551616) :
  Calls Tryd.prog 21 #[.int .u64 v] w (Made w (be8 v)):=by
 obtain ⟨i0,hi0,hz0,hz1,hz2⟩:=info_parts RY
 go_enter Tryd.func21,Tryd.ntmps21
 go_wp2_with (at_make; refine wpList_make_full _ rfl _ _ 37 rfl w.heap.size 5 i0 _ 1 Tryd.underlying37 hi0 hz0 hz1 .i64 .i64 _ _ 8 rfl rfl rfl rfl (by rw [hz2]; omega) (by unfold maxLen; omega) (aF _) ?_; intro w1 hown1 hg1)
 have hb1 : Below w.heap.size w w1:=(Below.refl _ _).grown hg1 (aF _) (by simp)
 have e0 : (madeCells (fD gP 0).cells (8 * 1)).toList = (row 0 v).toList:=by
  show (madeCells #[fD gP 0] 8).toList = _
  rw [toList_madeCells_one]
  rfl
 rw [e0] at hown1;clear hg1 e0
 go_loopw [0,4] (λq i wr=>∃ (k x : Nat),k <= 8 /\ x = v / 256 ^ k /\ i = .int .i64 (7 - (k : Int)) /\ q = .int .u64 (x : Int) /\ wr.ownsRow w.heap.size 5 1 (.slice (some ⟨w.heap.size,0,none⟩) 8 8) 8 (row k v).toList /\ Below w.heap.size w wr) (λ_ i _=>(intOf i + 1).toNat)
 case atStart=>exact ⟨0,v,by omega,by simp,rfl,rfl,hown1,hb1⟩
 case round =>
  obtain ⟨k,x,hk,hxe,rfl,rfl,hown,hb⟩:=hrel
  by_cases hlt : k < 8
  ·have hq : x < 18446744073709551616:=by rw [hxe]; exact bR (gJ _ _) hv
   obtain ⟨u,hu⟩:=Jp k v hlt;have hc:=(hown.cellAt (7 - k) (by omega)).trans (by simpa using hu);have hf:=hown.frozenAt (7 - k);have hs:=(hown.stored (7 - k) (fD gP ((x : Int) % 256))).1;have HX:=aH hxe;have HS:=aH hs;clear hu hxe hs
   go_wp2
   go_roundw
   case rel =>
    refine ⟨k + 1,x / 256,by omega,by rw [HX.out,F4],by rw [Int.natCast_add]; congr 1; omega,by go_num,?_,hb.setCell (aF _) _⟩;have e:=FR k v hlt;rw [<-HX.out] at e;rw [<-e,Array.toList_setIfInBounds];exact HS.out
   case measure=>simp [intOf]; omega
  ·obtain rfl : k = 8:=by omega
   go_wp2
   go_ret
   exact ⟨w.heap.size,rfl,hown,hb⟩
def OW (w : World) (base : Nat) (A : Option Addr) (l : List UInt8) (c : Nat) : Prop:=w.ownsRow base 5 1 (.slice A l.length c) l.length (By l)
def Vw (w : World) (l : List UInt8) (e : Ending) (w' : World) : Prop :=
  ∃ A c,e = .returned (.slice A l.length c) /\ OW w' w.heap.size A l c /\ Below w.heap.size w w'
end Go.Proofs.YtfkchihlchlfdaaDoor
namespace Go.Proofs.YtfkchihlchlfdaaDoor
open Go.RowKit Go.IntWalk
def msg (t : UInt8) (b : List UInt8) : List UInt8:=[119,105,116,97,110,t] ++ be8 b.length ++ b
theorem QC (t : UInt8) (b : List UInt8) : [119,105,116,97,110] ++ [t] ++ be8 b.length ++ b = msg t b:=by simp [msg]
theorem Ib (vs : List Value) (n : Nat) (parts : Array (Nat × Value)) (hp : parts.toList = (vs.zipIdx 0).map λx=>(x.2,x.1)) (hn : vs.length = n) (h0 : 0 < n) (h24 : n <= 16777216) (h1 : ∀ v ∈ vs,v.cells = #[v]) (w : World) :
  (Instr.buildSlice 37 n parts).run Tryd.prog w = .ok (.slice (some ⟨w.heap.size,0,none⟩) n n) (w.alloc (.cells vs.toArray 5)):=by
 obtain ⟨ie,h2,h3,h4,_⟩:=info_parts lQ;refine run_buildSlice w 37 5 n parts vs.toArray ie _ Tryd.underlying37 h2 h3 (by rw [h4]; omega) (by rw [h4]; omega) ?_;rw [hp,h4];exact Great.fill_flat _ _ h1 (by simp [hn])
section
variable {ops : Array Oper} {Q : Exit -> Act -> World -> Prop} {N : Nat} {E : List (Nat × Value)} {w : World} {o o2 : Oper} {rest : List Oper} {k k2 : Nat}
theorem GH {n : Nat} {parts : Array (Nat × Operand)} (l : List UInt8) (hw : WG ops N E o) (hd : o.dst = some k) (hk : aQ k N = true) (ho : o.op = .buildSlice 37 n parts)
  (hv : parts.toList.map (λp=>(p.1,ev E p.2)) = ((By l).zipIdx 0).map λx=>(x.2,some x.1)) (hn : l.length = n) (h0 : 0 < n) (h24 : n <= 16777216)
  (hk2 : lF Tryd.prog ops Q rest N ((k,.slice (some ⟨w.heap.size,0,none⟩) n n) :: E) (w.alloc (.cells (By l).toArray 5))) : lF Tryd.prog ops Q (o :: rest) N E w:=by
 refine N2 (.slice (some ⟨w.heap.size,0,none⟩) n n) (w.alloc (.cells (By l).toArray 5)) hw hd hk (λa ha=>?_) hk2
 have hm : ∀ (l : List (Nat × Operand)) (m : List (Value × Nat)),l.map (λp=>(p.1,ev E p.2)) = m.map (λx=>(x.2,some x.1)) -> l.map (λ(i,x)=>(i,a.eval x)) = m.map λx=>(x.2,x.1):=by
  intro l
  induction l with
  | nil=>intro m h; cases m with
   | nil=>rfl
   | cons=>cases h
  | cons p l ih=>intro m h; cases m with
   | nil=>cases h
   | cons u m =>
    simp only [cH,List.cons.injEq,Prod.mk.injEq] at h ⊢;exact ⟨⟨h.1.1,ha.eval h.1.2⟩,ih m h.2⟩
 have hr:=Ib (By l) n (parts.map λ(i,x)=>(i,a.eval x)) (by rw [Array.toList_map]; exact hm _ _ hv) (by rw [b6]; exact hn) h0 h24 (λv hv=>by
  obtain ⟨x,_,rfl⟩:=List.mem_map.1 hv
  rfl) w
 unfold execOp
 simp only [ho,aJ,hr,aG,aI]
theorem Tj {n : Nat} {parts : Array (Nat × Operand)} (l : List UInt8) (hw : WG ops N E o) (hd : o.dst = some k) (hk : aQ k N = true) (ho : o.op = .buildSlice 37 n parts)
  (hv : parts.toList.map (λp=>(p.1,ev E p.2)) = ((By l).zipIdx 0).map λx=>(x.2,some x.1)) (hn : l.length = n) (h0 : 0 < n) (h24 : n <= 16777216)
  (hw2 : ∀ v,WG ops N ((k,v) :: E) o2) (hd2 : o2.dst = some k2) (hk2 : aQ k2 N = true) (ho2 : o2.op = .convert 37 37 (.tmp k))
  (hn2 : ∀ W g,Up w W -> SB W (.slice (some ⟨g,0,none⟩) n n) l -> lF Tryd.prog ops Q rest N ((k2,.slice (some ⟨g,0,none⟩) n n) :: (k,.slice (some ⟨g,0,none⟩) n n) :: E) W) : lF Tryd.prog ops Q (o :: o2 :: rest) N E w:=by
 refine GH l hw hd hk ho hv hn h0 h24 ?_
 have hsz : (By l).toArray.size = n:=by rw [List.size_toArray,b6,hn]
 refine N2 (.slice (some ⟨w.heap.size,0,none⟩) n n) (w.alloc (.cells (By l).toArray 5 (n,n + 1))) (hw2 _) hd2 hk2 (λa ha=>?_) (hn2 _ w.heap.size ((Up.refl w).alloc _) ?_)
 ·have h1 : a.eval (.tmp k) = .slice (some ⟨w.heap.size,0,none⟩) n n:=ha.get k _ (by rw [fL,if_pos rfl])
  have hr:=Lib.run_convert_bytes_const (P:=Tryd.prog) w 37 5 (By l).toArray n n Tryd.underlying37 Tryd.underlying5;rw [hsz] at hr
  unfold execOp
  simp only [ho2,h1,aJ,hr,aG,aI]
 ·have hc : (w.alloc (.cells (By l).toArray 5 (n,n + 1))).heap[w.heap.size]? = some (.cells (By l).toArray 5 (n,n + 1)):=heap_alloc_new w _
  have hs2 : (w.alloc (.cells (By l).toArray 5 (n,n + 1))).heap.size = w.heap.size + 1:=aW _ _;refine ⟨some ⟨w.heap.size,0,none⟩,n,by rw [hn],by omega,by omega,λh=>(by cases h),λ_=>⟨_,rfl,dC _,by rw [hs2]; exact lT _,λj u hu=>?_⟩⟩;rw [k9,cell_of_row _ _ _ _ _ _ hc,cW]
  simp [By,hu]
theorem Tm {s x : Operand} {c d : Nat} {A X : Option Addr} {xs l : List UInt8} (hg : o.guard = none) (hd : o.dst = some k) (hk : aQ k N = true) (ho : o.op = .call { callee:=.builtin .append,args:=#[s,x],argTypes:=#[37,37] })
  (hs : ev E s = some (.slice A xs.length c)) (hx : ev E x = some (.slice X l.length d)) (hS : SL w 0 w.heap.size A xs c) (hX : SL w 0 w.heap.size X l d) (h0 : 0 < xs.length) (hl : 0 < l.length) (hc : c < xs.length + l.length) (hb : xs.length + l.length <= 140737488355328)
  (hn : ∀ W v,Up w W -> SB W v (xs ++ l) -> lF Tryd.prog ops Q rest N ((k,v) :: E) W) : lF Tryd.prog ops Q (o :: rest) N E w:=by
 obtain ⟨i,hi0,hz0,hs0,hby⟩:=info_parts lQ;obtain ⟨ad,rfl,_,_,_⟩:=hS.2.2.2 h0;obtain ⟨bd,rfl,_,_,_⟩:=hX.2.2.2 hl;obtain ⟨v',w',hr,ho',hgr⟩:=run_append_arg_grows (P:=Tryd.prog) w 37 o.type 5 i _ 1 1 Tryd.underlying37 hi0 hz0 hs0 hby rfl (by omega) ad xs.length c (By xs) (by rw [b6,Fc]) (hS.cells ad rfl) bd l.length d (By l) (by rw [b6,Fc]) (hX.cells bd rfl) hc (by unfold maxLen; omega) (by omega);rw [<-uT,<-aO] at ho';have hU : Up w w':=(Below.refl _ _).grown hgr (aF _) (by simp);refine nH v' hg hd hk (λa ha=>?_) (hn w' v' hU ?_)
 ·have h2:=ha.eval hs
  have h3:=ha.eval hx
  unfold execOp
  simp only [ho,resolve,invoke,builtin,aJ,aI,aG,eD,cH,gK,h2,h3,hr]
 ·obtain ⟨A',c',rfl⟩ : ∃ A' c',v' = .slice A' (xs ++ l).length c':=by
   rcases ho'.2 with ⟨h0,hn⟩ | ⟨g,cap,cur,hv,_⟩
   ·exact ⟨none,0,by rw [h0,hn]⟩
   ·exact ⟨_,_,hv⟩
  exact (show GS w' w.heap.size 5 A' c' (By (xs ++ l)) from by unfold GS; rw [b6]; exact ho').sb
end
theorem OW.gs {w : World} {base c : Nat} {A : Option Addr} {l : List UInt8} (h : OW w base A l c) : GS w base 5 A c (By l):=by
 unfold GS
 rw [b6];exact h
theorem OW.sb {w : World} {base c : Nat} {A : Option Addr} {l : List UInt8} (h : OW w base A l c) : SB w (.slice A l.length c) l:=h.gs.sb
theorem SB.sl {w : World} {v : Value} {l : List UInt8} (h : SB w v l) : ∃ A c,v = .slice A l.length c /\ SL w 0 w.heap.size A l c:=h
theorem yK : Own 23:=λ_ _=>by go_simp
theorem Ga : Own 44:=λ_ _=>by go_simp
def Vv (w : World) (l : List UInt8) (e : Ending) (w' : World) : Prop:=∃ v,e = .returned v /\ SB w' v l /\ Below w.heap.size w w'
theorem FG (t : UInt8) {v : Value} {b : List UInt8} (w : World) (hv : SB w v b) (hb : b.length <= 140737488355312) : Calls Tryd.prog 23 #[.int .u8 (t.toNat : Int),v] w (Vv w (msg t b)):=by
 refine e9 (vs:=[.int .u8 (t.toNat : Int),v]) 12 Tryd.func23 rfl (by rw [Tryd.ntmps23]; rfl) ?_;refine aM λK hK=>?_;refine dB ?_;refine bU (.slice none 0 0) rfl rfl rfl rfl rfl ?_;refine bI λw1 hw1=>hK _ _ ?_;clear hK K;replace hv:=hv.later hw1;have hU : Up w w1:=hw1;clear hw1;refine aM λK hK=>?_;refine eQ ?_;refine Tj [119,105,116,97,110] (.inl rfl) rfl rfl rfl rfl rfl (by decide) (by decide) (λ_=>.inl rfl) rfl rfl rfl λw2 g2 hw2 h2=>?_;replace hv:=hv.later hw2;replace hU:=hU.step hw2;clear hw2;refine nP (.int .u8 (t.toNat : Int)) rfl rfl rfl rfl rfl ?_;refine GH [t] (.inl rfl) rfl rfl rfl rfl rfl (by decide) (by decide) ?_;have hal:=(Up.refl w2).alloc (.cells (By [t]).toArray 5);have h3 : SB (w2.alloc (.cells (By [t]).toArray 5)) (.slice (some ⟨w2.heap.size,0,none⟩) 1 1) [t]:=SB.all (Blk.new w2 5 _) rfl (by decide);replace h2:=h2.later hal;replace hv:=hv.later hal;replace hU:=hU.step hal;clear hal;generalize w2.alloc (.cells (By [t]).toArray 5) = w3 at *;generalize w2.heap.size = g3 at *;obtain ⟨A2,c2,e2,s2⟩:=h2.sl;obtain ⟨A3,c3,e3,s3⟩:=h3.sl
 injection e2 with x1 x2 x3
 injection e3 with y1 y2 y3
 subst x1 x3 y1 y3;refine Tm (xs:=[119,105,116,97,110]) (l:=[t]) rfl rfl rfl rfl rfl rfl s2 s3 (by decide) (Nat.zero_lt_one) (show 5 < 5 + 1 by omega) (show 5 + 1 <= 140737488355328 by omega) λw4 v4 hw4 h4=>?_;replace hv:=hv.later hw4;replace hU:=hU.step hw4;refine nP v rfl rfl rfl rfl rfl ?_;obtain ⟨L,hL⟩ : ∃ L,L = [119,105,116,97,110] ++ [t]:=⟨_,rfl⟩
 have hm : L ++ be8 b.length ++ b = msg t b:=by rw [hL,QC]
 have hlen : L.length = 6:=by rw [hL]; rfl
 rw [<-hL] at h4;clear hL;obtain ⟨A4,c4,rfl,s4⟩:=h4.sl;obtain ⟨A5,c5,rfl,s5⟩:=hv.sl;refine N8 #[.slice A4 L.length c4,.slice A5 b.length c5] rfl rfl rfl Ga (L6 A4 A5 L b c4 c5 w4.heap.size w4 s4 s5 (aF _) (by omega)) rfl rfl ?_
 rintro e w5 ⟨g,rfl,ho,hb5⟩
 rw [hm] at ho ⊢;have h6:=OW.sb ho;refine ⟨_,rfl,?_⟩;refine cP (.slice (some ⟨g,0,none⟩) (msg t b).length (msg t b).length) rfl rfl rfl rfl rfl ?_;refine bG ?_;refine hK _ _ ?_;clear hK K;refine gI λa ha=>?_;exact bodyPost_ret (results_tmp rfl _ _ _) ha.defers ⟨_,congrArg l7 (ha.get 4 _ rfl),h6,hU.step hb5⟩
end Go.Proofs.YtfkchihlchlfdaaDoor
namespace Nums
theorem zz {n : Nat} [NeZero n] (d : Fin n) : 0 * 0 * d + 1 = 1:=by grind only
theorem VK (a : F) : -a * -a = a * a:=by grind only
def xM (x : F) : F:=if x.val % 2 = 1 then -x else x
theorem AP (x : F) : (xM x).val % 2 = 0:=by
 unfold xM
 by_cases h : x.val % 2 = 1
 ·rw [if_pos h,Bk (by rintro rfl; exact absurd h (by decide)),h]
 ·rw [if_neg h]; omega
theorem DQ (x : F) : xM x * xM x = x * x:=by
 unfold xM
 by_cases h : x.val % 2 = 1
 ·rw [if_pos h]; grind only
 ·rw [if_neg h]
theorem FT {a b : F} (h : a * a = b * b) (hp : a.val % 2 = b.val % 2) : a = b:=by
 rcases JO gT h with h1 | h1
 ·exact h1
 ·by_cases h0 : b = 0
  ·rw [h1,h0]; grind only
  ·have:=Bk h0
   rw [<-h1] at this
   omega
theorem Jt (y : F) : y * y * dd + 1 ≠ 0:=by
 intro h
 have hy : y ≠ 0:=by
  rintro rfl
  have e : (0 : F) * 0 * dd + 1 = 1:=zz dd;rw [e] at h;exact xF gT h.symm
 have h1:=mQ gT hy;refine iL.d (im * kR y) ?_;have hi:=RZ;generalize kR y = z at *;generalize im = i at *;generalize dd = d at *
 have a : i * z * (i * z) = (i * i) * (z * z):=by grind only
 have b : d = -(1 : F) * (z * z):=by
  have c : d * (y * z) * (y * z) = (y * y * d) * (z * z):=by grind only
  have e : y * y * d = -1:=by grind only
  rw [h1,e] at c
  grind only
 rw [a,hi,b]
def ww (y : F) : F:=(y * y - 1) * kR (y * y * dd + 1)
theorem Ew (x y : F) : Ed.On dd ⟨x,y⟩ ↔ x * x = ww y:=by
 have h:=mQ gT (Jt y)
 unfold ww
 show y * y - x * x = 1 + dd * x * x * y * y ↔ _
 have hv:=Jt y;generalize hV : y * y * dd + 1 = v at *;generalize kR v = u at *;generalize dd = d at *
 constructor
 ·intro h1
  have a : y * y - 1 = x * x * v:=by rw [<-hV]; grind only
  have b : x * x * v * u = x * x * (v * u):=by grind only
  rw [a,b,h]
  grind only
 ·intro h1
  have a : x * x * v = y * y - 1:=by
   have b : (y * y - 1) * u * v = (y * y - 1) * (v * u):=by grind only
   rw [h1,b,h]
   grind only
  rw [<-hV] at a
  grind only
def Ag (P : Ed.Pt p) : Nat:=P.y.val + 57896044618658097711785492504343953926634992332820282019728792003956564819968 * (P.x.val % 2)
def eN (P : Ed.Pt p) : List UInt8:=bytes 32 (Ag P)
theorem gH (P : Ed.Pt p) : (eN P).length = 32:=cK _ _
theorem Nw : p < 57896044618658097711785492504343953926634992332820282019728792003956564819968:=by decide
theorem sU (P : Ed.Pt p) : le (eN P) = Ag P:=by
 unfold eN
 rw [oJ]
 apply Nat.mod_eq_of_lt
 have h:=P.y.isLt;have h2:=Nw
 have h3 : 57896044618658097711785492504343953926634992332820282019728792003956564819968 * 2 = 256 ^ 32:=by decide
 unfold Ag
 omega
theorem OP {P Q : Ed.Pt p} (h : Ag P = Ag Q) : P.y = Q.y /\ P.x.val % 2 = Q.x.val % 2:=by
 unfold Ag at h
 have h1:=P.y.isLt;have h2:=Q.y.isLt;have h3:=Nw;exact ⟨Fin.ext (by omega),by omega⟩
theorem uK {P Q : Ed.Pt p} (hP : Ed.On dd P) (hQ : Ed.On dd Q) (h : eN P = eN Q) : P = Q:=by
 have h1 : Ag P = Ag Q:=by rw [<-sU,<-sU,h]
 obtain ⟨h2,h3⟩:=OP h1;obtain ⟨x,y⟩:=P;obtain ⟨u,v⟩:=Q;simp only at h2 h3;subst h2;have a:=(Ew x y).mp hP;have b:=(Ew u y).mp hQ;rw [FT (a.trans b.symm) h3]
end Nums
namespace Nums
theorem lP : ∀ a b : List UInt8,le (a ++ b) = le a + 256 ^ a.length * le b
 | [],b=>by show le b = 0 + 1 * le b; omega
 | x :: a,b=>by
  show x.toNat + 256 * le (a ++ b) = x.toNat + 256 * le a + 256 ^ (a.length + 1) * le b
  rw [lP a b,dE,Nat.mul_add,gN (256 ^ a.length) 256,kJ]
  omega
theorem AJ : ∀ a : List UInt8,le a < 256 ^ a.length
 | []=>by decide
 | x :: a=>by
  have h1:=AJ a;have h2:=x.toNat_lt
  show x.toNat + 256 * le a < 256 ^ (a.length + 1)
  rw [dE]
  omega
section
variable {b : List UInt8} (hb : b.length = 32)
include hb
theorem Vl : b = b.take 31 ++ [b[31]!]:=by
 conv=>lhs; rw [<-fQ 31 b]
 rw [lX (by omega),List.drop_eq_nil_of_le (by omega),getElem!_pos b 31 (by omega)]
theorem le_top : le b = le (b.take 31) + 452312848583266388373324160190187140051835877600158453279131187530910662656 * (b[31]!).toNat:=by
 conv=>lhs; rw [Vl hb]
 rw [lP,aZ,hb]
 show _ + 256 ^ 31 * ((b[31]!).toNat + 256 * 0) = _
 rw [show (256 : Nat) ^ 31 = 452312848583266388373324160190187140051835877600158453279131187530910662656 by decide]
 omega
theorem J4 : le (b.take 31) < 452312848583266388373324160190187140051835877600158453279131187530910662656:=by
 have h:=AJ (b.take 31);rw [aZ,hb,show (256 : Nat) ^ min 31 32 = 452312848583266388373324160190187140051835877600158453279131187530910662656 by decide] at h;exact h
theorem RJ (x : UInt8) : le (b.set 31 x) = le (b.take 31) + 452312848583266388373324160190187140051835877600158453279131187530910662656 * x.toNat:=by
 have h : (b.set 31 x).length = 32:=by rw [eP,hb]
 rw [le_top h,List.take_set_of_le (by omega),getElem!_pos _ 31 (by omega),List.getElem_set_self]
theorem JA : (b[31]!).toNat < 128 ↔ le b < 57896044618658097711785492504343953926634992332820282019728792003956564819968:=by
 have h1:=le_top hb;have h2:=J4 hb
 omega
end
theorem L3 {P : Ed.Pt p} (h : P.x.val % 2 ≠ 1) : eN P = enc P.y:=by
 apply xH (by rw [gH,kW])
 rw [sU,xI]
 unfold Ag
 have : P.x.val % 2 = 0:=by omega
 rw [this]
 omega
theorem EV (y : F) : ((enc y)[31]!).toNat < 128:=by
 rw [JA (kW y),xI];exact Nat.lt_trans y.isLt Nw
theorem OO {P : Ed.Pt p} (h : P.x.val % 2 = 1) : eN P = (enc P.y).set 31 (aX (((enc P.y)[31]!).toNat + 128)):=by
 apply xH (by rw [gH,eP,kW])
 have h1:=EV P.y;have h2:=le_top (kW P.y);rw [sU,RJ (kW P.y),UInt8.toNat_ofNat_of_lt' (by show _ < 256; omega)];rw [xI] at h2
 unfold Ag
 rw [h]
 omega
end Nums
namespace Nums
def mZ : List Nat -> Nat
  | []=>0
  | x :: r=>x + 2 * mZ r
theorem Bx : ∀ (d : List Nat) (j v : Nat),j < d.length -> mZ (d.set j v) + d[j]! * 2 ^ j = mZ d + v * 2 ^ j
 | [],_,_,h=>by simp at h
 | x :: r,0,v,_=>by
  simp only [List.set_cons_zero,mZ,qG,Fc];have : (x :: r)[0]! = x:=rfl;rw [this]
  omega
 | x :: r,j + 1,v,h=>by
  have ih:=Bx r j v (by simpa using h)
  have e : (x :: r)[j + 1]! = r[j]!:=by simp
  rw [e,List.set_cons_succ,mZ,mZ,dE]
  have e1 : r[j]! * (2 ^ j * 2) = 2 * (r[j]! * 2 ^ j):=by rw [<-kJ,gN _ 2]
  have e2 : v * (2 ^ j * 2) = 2 * (v * 2 ^ j):=by rw [<-kJ,gN _ 2]
  rw [e1,e2]
  omega
theorem KW (n : Nat) : mZ (aD n 0) = 0:=by
 induction n with
 | zero=>rfl
 | succ n ih=>rw [List.replicate_succ,mZ,ih]
theorem KY {d : List Nat} {j : Nat} (h : j < d.length) : mZ (d.drop j) = d[j]! + 2 * mZ (d.drop (j + 1)):=by
 rw [lX h,mZ,getElem!_pos d j h]
structure DG (N i : Nat) (f : Int) (d : List Nat) : Prop where
  len : d.length = 256
  sum : mZ d = N % 2 ^ i
  hi : ∀ j,i <= j -> j < 256 -> d[j]! = 0
  odd : ∀ j,j < 256 -> d[j]! = 0 \/ (d[j]! % 2 = 1 /\ d[j]! < 16)
  last : f = -4 \/ ∃ m : Nat,f = m /\ m < i /\ d[m]! < 2 ^ (i - m) /\ d[m]! % 2 = 1
theorem M4 (n j : Nat) (h : j < n) : (aD n 0)[j]! = 0:=by
 rw [getElem!_pos _ j (by simpa using h)]
 simp
theorem DG.start (N : Nat) : DG N 0 (-4) (aD 256 0) where
 len:=List.length_replicate
 sum:=by rw [KW,qG,Nat.mod_one]
 hi:=λj _ h=>M4 256 j h
 odd:=λj h=>.inl (M4 256 j h)
 last:=.inl rfl
theorem B5 (N i : Nat) : N % 2 ^ (i + 1) = N % 2 ^ i + N / 2 ^ i % 2 * 2 ^ i:=by
 rw [dE,Nat.mod_mul,gN (2 ^ i)]
theorem DG.zero {N i : Nat} {f : Int} {d : List Nat} (h : DG N i f d) (hb : N / 2 ^ i % 2 = 0) : DG N (i + 1) f d where
 len:=h.len
 sum:=by rw [h.sum,B5,hb,Nat.zero_mul,fJ]
 hi:=λj hj=>h.hi j (by omega)
 odd:=h.odd
 last:=h.last.imp id λ⟨m,h1,h2,h3,h4⟩=>⟨m,h1,by omega,bB h3 (Nat.pow_le_pow_right (by decide) (by omega)),h4⟩
theorem zL {d : List Nat} {j v : Nat} (h : j < d.length) : (d.set j v)[j]! = v:=by
 rw [getElem!_pos _ j (by simpa using h)]
 simp
theorem D5 {d : List Nat} {j k v : Nat} (h : j ≠ k) : (d.set j v)[k]! = d[k]!:=by
 simp only [C3,List.getElem?_set_ne h]
theorem DG.fresh {N i : Nat} {f : Int} {d : List Nat} (h : DG N i f d) (hi : i < 256) (hb : N / 2 ^ i % 2 = 1) : DG N (i + 1) i (d.set i 1) where
 len:=by rw [eP,h.len]
 sum:=by
  have h1:=Bx d i 1 (by rw [h.len]; exact hi);rw [h.hi i (aF _) hi,h.sum] at h1;rw [B5,hb]
  omega
 hi:=λj hj hj2=>by rw [D5 (by omega)]; exact h.hi j (by omega) hj2
 odd:=λj hj=>by
  by_cases e : i = j
  ·subst e
   rw [zL (by rw [h.len]; exact hi)];exact .inr ⟨by decide,by decide⟩
  ·rw [D5 e]
   exact h.odd j hj
 last:=.inr ⟨i,rfl,by omega,by rw [zL (by rw [h.len]; exact hi),show i + 1 - i = 1 from by omega]; decide,by rw [zL (by rw [h.len]; exact hi)]⟩
theorem DG.more {N i m : Nat} {d : List Nat} (h : DG N i m d) (hi : i < 256) (hb : N / 2 ^ i % 2 = 1) (hm : i < m + 4) : m < i /\ d[m]! < 2 ^ (i - m) /\ DG N (i + 1) m (d.set m (d[m]! + 2 ^ (i - m))):=by
 obtain ⟨m',h1,h2,h3,h4⟩ : ∃ m' : Nat,(m : Int) = m' /\ m' < i /\ d[m']! < 2 ^ (i - m') /\ d[m']! % 2 = 1:=by
  rcases h.last with h1 | h1
  ·omega
  ·exact h1
 obtain rfl : m = m':=by omega
 have hml : m < d.length:=by rw [h.len]; omega
 have hpe : 2 ^ (i + 1 - m) = 2 ^ (i - m) * 2:=by rw [show i + 1 - m = i - m + 1 from by omega,dE]
 have hk : i - m = 1 \/ i - m = 2 \/ i - m = 3:=by omega
 have hpow : 2 ^ (i - m) * 2 <= 16 /\ 2 ^ (i - m) % 2 = 0:=by rcases hk with e | e | e <;> rw [e] <;> decide
 refine ⟨h2,h3,⟨by rw [eP,h.len],?_,λj hj hj2=>?_,λj hj=>?_,.inr ⟨m,rfl,by omega,?_,?_⟩⟩⟩
 ·have e1:=Bx d m (d[m]! + 2 ^ (i - m)) hml
  have e2 : 2 ^ (i - m) * 2 ^ m = 2 ^ i:=by rw [<-Nat.pow_add]; congr 1; omega
  rw [rH,e2,h.sum] at e1;rw [B5,hb]
  omega
 ·rw [D5 (by omega)]
  exact h.hi j (by omega) hj2
 ·by_cases e : m = j
  ·subst e
   rw [zL hml];exact .inr ⟨by omega,by omega⟩
  ·rw [D5 e]
   exact h.odd j hj
 ·rw [zL hml,hpe]
  omega
 ·rw [zL hml]
  omega
namespace Ed
variable {n : Nat} [NeZero n] {d : Fin n}
def tot (d : Fin n) : List (Pt n) -> Nat -> (Nat -> Nat) -> Pt n
  | [],_,_=>zero
  | A :: ps,i,f=>add d (mul d (f i) A) (tot d ps (i + 1) f)
theorem zU (g : Good n d) : ∀ {ps : List (Pt n)},(∀ A ∈ ps,On d A) -> ∀ i f,On d (tot d ps i f)
 | [],_,_,_=>sS
 | A :: ps,h,i,f=>pW g (j9 g (h A (by simp)) _) (zU g (λB hB=>h B (by simp [hB])) (i + 1) f)
theorem u5 : ∀ {ps : List (Pt n)} {i : Nat} {f f' : Nat -> Nat},(∀ j,i <= j -> j < i + ps.length -> f j = f' j) -> tot d ps i f = tot d ps i f'
 | [],_,_,_,_=>rfl
 | A :: ps,i,f,f',h=>by
  rw [tot,tot,h i (aF _) (by simp),u5 (i:=i + 1) (f:=f) (f':=f') λj h1 h2=>h j (by omega) (by simp; omega)]
theorem Fq (g : Good n d) : ∀ {ps : List (Pt n)} {i : Nat} {f : Nat -> Nat},(∀ j,i <= j -> j < i + ps.length -> f j = 0) -> tot d ps i f = zero
 | [],_,_,_=>rfl
 | A :: ps,i,f,h=>by
  rw [tot,h i (aF _) (by simp),yP,zero_add g,Fq g λj h1 h2=>h j (by omega) (by simp; omega)]
theorem Jz (g : Good n d) : ∀ {ps : List (Pt n)},(∀ A ∈ ps,On d A) -> ∀ (i : Nat) (f : Nat -> Nat),tot d ps i (λj=>2 * f j) = add d (tot d ps i f) (tot d ps i f)
 | [],_,_,_=>(zero_add g zero).symm
 | A :: ps,h,i,f=>by
  have hA:=h A (by simp);have hs : ∀ B ∈ ps,On d B:=λB hB=>h B (by simp [hB]);rw [tot,tot,Jz g hs (i + 1) f,Nat.two_mul,mul_add g hA,Hm g (j9 g hA _) (j9 g hA _) (zU g hs _ _) (zU g hs _ _)]
theorem Fs (g : Good n d) : ∀ {ps : List (Pt n)},(∀ A ∈ ps,On d A) -> ∀ (i j v : Nat) (f f' : Nat -> Nat) (A : Pt n),ps[j]? = some A -> f' (i + j) = f (i + j) + v -> (∀ k,k ≠ i + j -> f' k = f k) ->
  tot d ps i f' = add d (tot d ps i f) (mul d v A)
 | [],_,_,_,_,_,_,A,hj,_,_=>by simp at hj
 | B :: ps,h,i,0,v,f,f',A,hj,h1,h2=>by
  simp only [List.getElem?_cons_zero,bH] at hj;subst hj;have hB:=h B (by simp);have hs : ∀ B ∈ ps,On d B:=λB hB=>h B (by simp [hB]);rw [tot,tot,u5 (ps:=ps) (i:=i + 1) (f:=f') (f':=f) λk h3 _=>h2 k (by omega)];rw [fJ] at h1;rw [h1,mul_add g hB,add_assoc g (j9 g hB _) (j9 g hB _) (zU g hs _ _),add_assoc g (j9 g hB _) (zU g hs _ _) (j9 g hB _),add_comm (mul d v B)]
 | B :: ps,h,i,j + 1,v,f,f',A,hj,h1,h2=>by
  have hB:=h B (by simp);have hs : ∀ B ∈ ps,On d B:=λB hB=>h B (by simp [hB]);have hA : On d A:=hs A (List.mem_of_getElem? (by simpa using hj))
  rw [tot,tot,Fs g hs (i + 1) j v f f' A (by simpa using hj) (by rw [Nat.add_right_comm,Nat.add_assoc]; exact h1) (λk hk=>h2 k (by omega)),h2 i (by omega),
   add_assoc g (j9 g hB _) (zU g hs _ _) (j9 g hA _)]
end Ed
end Nums
namespace Go.Proofs.YtfkchihlchlfdaaDoor
open Go.RowKit Go.IntWalk
theorem vI (x y : Nat) (hx : x < 18446744073709551616) (hy : y < 18446744073709551616) (w : World) :
  Calls Tryd.prog 93 #[.int .u64 x,.int .u64 y] w λe w'=>e = .returned (.tuple #[.int .u64 ((x * y / 18446744073709551616 : Nat) : Int),.int .u64 ((x * y % 18446744073709551616 : Nat) : Int)]) /\ w' = w:=by
 obtain ⟨bd,bt,bw,hhi⟩:=Lib.mul64_hi x y hx hy;have ba:=Ff (a:=x / 4294967296) (b:=y / 4294967296) (by omega) (by omega);have bb:=Ff (a:=x / 4294967296) (b:=y % 4294967296) (by omega) (by omega);have bc:=Ff (a:=x % 4294967296) (b:=y / 4294967296) (by omega) (by omega)
 have ba' : x / 4294967296 * (y / 4294967296) < 18446744073709551616:=by omega
 have bb' : x / 4294967296 * (y % 4294967296) < 18446744073709551616:=by omega
 have bc' : x % 4294967296 * (y / 4294967296) < 18446744073709551616:=by omega
 have bh1 : x / 4294967296 * (y / 4294967296) + (x / 4294967296 * (y % 4294967296) + x % 4294967296 * (y % 4294967296) / 4294967296) / 4294967296 < 18446744073709551616:=by omega
 have bh : x / 4294967296 * (y / 4294967296) + (x / 4294967296 * (y % 4294967296) + x % 4294967296 * (y % 4294967296) / 4294967296) / 4294967296 + ((x / 4294967296 * (y % 4294967296) + x % 4294967296 * (y % 4294967296) / 4294967296) % 4294967296 + x % 4294967296 * (y / 4294967296)) / 4294967296 < 18446744073709551616:=by omega
 go_enter Tryd.func93,Tryd.ntmps93
 go_wp2
 simp only [ED x hx,ED y hy,OR,VO,V3,rJ _ bd,rJ _ bb',rJ _ bt,ED _ bt,rJ _ bc',rJ _ bw,rJ _ ba',rJ _ bh1,rJ _ bh,Ui (x * y)];rw [hhi]
 go_ret2
 exact ⟨rfl,rfl⟩
theorem sF (x y c : Nat) (hc : c <= 1) (w : World) : (callFunc 92 #[.int .u64 x,.int .u64 y,.int .u64 c]).run Tryd.prog w =
  .ok (.value (.tuple #[.int .u64 (((x + y + c) % 18446744073709551616 : Nat) : Int),.int .u64 (((x + y + c) / 18446744073709551616 : Nat) : Int)])) w:=by
 rw [run_callFunc_extern Tryd.func92 (by kernel_rfl) (by kernel_rfl) (by kernel_rfl) (e:=add64Entry) (by kernel_rfl),run_add64 x y c (by omega) (by omega) (by omega) (by omega)];simp only [Result.andThen]
 congr 5 <;> omega
theorem DW (x y c : Int) (hx : 0 <= x) (hy : 0 <= y) (hc0 : 0 <= c) (hc : c <= 1) (w : World) : (callFunc 92 #[.int .u64 x,.int .u64 y,.int .u64 c]).run Tryd.prog w =
  .ok (.value (.tuple #[.int .u64 ((x + y + c) % 18446744073709551616),.int .u64 ((x + y + c) / 18446744073709551616)])) w:=by
 obtain ⟨x,rfl⟩:=vV hx;obtain ⟨y,rfl⟩:=vV hy;obtain ⟨c,rfl⟩:=vV hc0;refine (sF x y c (by omega) w).trans ?_
 congr 5 <;> omega
theorem Jg (x y : Int) (hx : 0 <= x) (hy : 0 <= y) (w : World) : (callFunc 92 #[.int .u64 x,.int .u64 y,.int .u64 0]).run Tryd.prog w =
  .ok (.value (.tuple #[.int .u64 ((x + y) % 18446744073709551616),.int .u64 ((x + y) / 18446744073709551616)])) w:=by
 simpa using DW x y 0 hx hy (Int.le_refl 0) (by decide) w
theorem kG (cs : Array Value) (h : cs.size = 2) : (Tryd.prog.info? 126).map (·.size) = some cs.size:=by
 rw [h]
 kernel_rfl
theorem QE (hi lo : Nat) (hl : lo < 18446744073709551616) (w : World) :
  Calls Tryd.prog 81 #[.agg (Us [hi,lo]).toArray] w λe w'=>e = .returned (.int .u64 ((lo % 2251799813685248 : Nat) : Int)) /\ Below w.heap.size w w':=by
 have e0 : (Us [hi,lo]).toArray = #[.int .u64 (hi : Int),.int .u64 (lo : Int)]:=rfl;rw [e0]
 go_enter Tryd.func81,Tryd.ntmps81
 go_wp2
 rw [Dx lo hl]
 go_ret
 exact ⟨rfl,(Below.refl _ _).alloc (aF _) _⟩
theorem Og (hi lo : Nat) (hh : hi < 2251799813685248) (hl : lo < 18446744073709551616) (w : World) :
  Calls Tryd.prog 82 #[.agg (Us [hi,lo]).toArray] w λe w'=>e = .returned (.int .u64 ((hi * 8192 + lo / 2251799813685248 : Nat) : Int)) /\ Below w.heap.size w w':=by
 have e0 : (Us [hi,lo]).toArray = #[.int .u64 (hi : Int),.int .u64 (lo : Int)]:=rfl;rw [e0]
 go_enter Tryd.func82,Tryd.ntmps82
 go_wp2
 have e1 : (hi : Int) * 8192 = ((hi * 8192 : Nat) : Int):=by omega
 rw [e1,Vf,orW 13 (hi * 8192) (lo / 2251799813685248) (by omega) (by omega) (by omega) (by omega)]
 go_ret
 exact ⟨rfl,(Below.refl _ _).alloc (aF _) _⟩
theorem Nm (hi lo a b : Nat) (hh : hi < 18446744073709551616) (hl : lo < 18446744073709551616) (ha : a < 18446744073709551616) (hb : b < 18446744073709551616) (w : World) :
  Calls Tryd.prog 80 #[.agg (Us [hi,lo]).toArray,.int .u64 a,.int .u64 b] w λe w' =>
   e = .returned (.agg (Us [(hi + a * b / 18446744073709551616 + (lo + a * b % 18446744073709551616) / 18446744073709551616) % 18446744073709551616,(lo + a * b % 18446744073709551616) % 18446744073709551616]).toArray) /\ Below w.heap.size w w':=by
 have e0 : (Us [hi,lo]).toArray = #[.int .u64 (hi : Int),.int .u64 (lo : Int)]:=rfl;rw [e0];have HM:=λw1=>aH (vI a b ha hb w1);generalize a * b / 18446744073709551616 = mh at *;generalize hml : a * b % 18446744073709551616 = ml at *
 have hml : ml < 18446744073709551616:=by omega
 have hc1 : ((lo : Int) + (ml : Int)) / 18446744073709551616 <= 1:=by omega
 have hc0 : (0 : Int) <= ((lo : Int) + (ml : Int)) / 18446744073709551616:=by omega
 go_enter Tryd.func80,Tryd.ntmps80
 go_wp2_with (fail)
 refine (HM _).out.mono ?_
 rintro e w1 ⟨rfl,rfl⟩
 go_wp2_with (first | simp only [Jg lo ml (by omega) (by omega)] | simp only [DW hi mh _ (by omega) (by omega) hc0 hc1])
 refine bodyPost_ret (results_cell_row rfl _ _ (w.heap.size + 1) 126 _ (0,0) _ rfl (heap_alloc2_new w _ _) Tryd.underlying126 rfl (kG _ rfl)) rfl ⟨?_,((Below.refl _ _).alloc (aF _) _).alloc (by simp) _⟩
 rfl
end Go.Proofs.YtfkchihlchlfdaaDoor
