import Derived.Test.YtfkchihlchlfdaaGreatDoorMc
import Derived.Test.YtfkchihlchlfdaaGreatDoorMb
import Derived.Test.YtfkchihlchlfdaaGreatDoorMh
import Derived.Test.YtfkchihlchlfdaaGreatDoorMe
import Derived.Test.YtfkchihlchlfdaaGreatDoorMa
import Derived.StillTailTactics
import Derived.Deep.OwnRows
import Derived.OwnWalk
import Derived.Test.YtfkchihlchlfdaaGreatDoorMg
set_option maxRecDepth 100000
set_option maxHeartbeats 2000000
open And renaming intro->a5
open Go.Act renaming put->aG
open Go.Instr renaming fill->gN,fieldAt->kA
open Go.IntKind renaming wrap_u64->aP
open Go.Lib renaming hid->aL
open Go.Obj renaming cells->gZ
open Go.Op renaming equalIn->fH
open Go.Result renaming andThen_ok->aF
open Go.Sem renaming run_bind->aJ,run_pure->aK
open List renaming setIfInBounds_toArray->aA,set_cons_zero->aB,set_cons_succ->aC,append_assoc->aU,length_take->aY,size_toArray->a9,append_nil->bV,take_of_length_le->bW,nil_append->kG,range->tT
open Nat renaming le_refl->aH,blt->aQ,mod_eq_of_lt->bR,min_eq_left->cW,pow_succ->dD,reducePow->jD,mul_assoc->k6,mul_le_mul->m9,pow_add->pL,sub_self->sT,pow_mul->xJ,pow_le_pow_right->xK,add_sub_cancel_left->AQ,div_lt_of_lt_mul->DM,add_mul_div_left->DN,reduceAdd->F9,pow_pos->NK
open Ne renaming symm->lZ
namespace Go.Proofs.YtfkchihlchlfdaaGreatDoor
open Go.RowKit Go.IntWalk Nums
def pc (X Y Z T : List Nat) : List Nat:=X ++ (Y ++ (Z ++ T))
def zl : List Nat:=[0,0,0,0,0]
def pz : List Nat:=pc zl zl zl zl
theorem RD (a b : List Nat) : Us (a ++ b) = Us a ++ Us b:=by simp [Us]
theorem Bm (X Y Z T : List Nat) : Us (pc X Y Z T) = Us X ++ (Us Y ++ (Us Z ++ Us T)):=by simp [pc,Us]
theorem lC {X Y Z T : List Nat} (hX : X.length = 5) (hY : Y.length = 5) (hZ : Z.length = 5) (hT : T.length = 5) : (pc X Y Z T).length = 20:=by simp [pc,hX,hY,hZ,hT]
theorem bU (l : List Nat) : ∀ v ∈ (Us l).toArray.toList,v.oneCell' = true:=λv hv=>cO l v (by simpa using hv)
theorem aV {l : List Nat} {n : Nat} (h : l.length = n) : (Us l).toArray.size = n:=by rw [a9,dB,h]
theorem KK {n : Nat} (h : n = 20) : (Tryz.prog.info? 118).map (·.size) = some n:=by
 rw [h]
 kernel_rfl
theorem KL {n : Nat} (h : n = 20) : (Tryz.prog.info? 137).map (·.size) = some n:=by
 rw [h]
 kernel_rfl
theorem Ot {l : List Nat} (h : l.length = 5) : (Tryz.prog.info? 116).map (·.size) = some (Us l).length:=by
 rw [dB,h]
 kernel_rfl
theorem gE : zl.length = 5:=rfl
theorem fE : pz.length = 20:=rfl
def nvE (t : Nat) : NV:=⟨t,116,z5⟩
def nvA (t : Nat) : NV:=⟨t,137,(Us pz).toArray⟩
section
variable {w : World} {g t : Nat} {X Y Z T : List Nat}
theorem Blk.M2 {w : World} {g t off : Nat} {A V Z : List Value} (h : Blk w g t (A ++ (V ++ Z)).toArray) (ho : off = A.length) : w.rangeAt g off V:=λj v hv=>by
 rw [h.cell (off + j),ho];have hj:=(List.getElem?_eq_some_iff.1 hv).1;simp only [List.getElem?_toArray];rw [List.getElem?_append_right (by omega),AQ,List.getElem?_append_left hj];exact hv
theorem Blk.cx (h : Blk w g t (Us (pc X Y Z T)).toArray) : w.rangeAt g 0 (Us X):=by
 rw [Bm] at h;exact Blk.M2 (A:=[]) h rfl
theorem Blk.cy (h : Blk w g t (Us (pc X Y Z T)).toArray) (hX : X.length = 5) : w.rangeAt g 5 (Us Y):=by
 rw [Bm] at h;exact Blk.M2 (A:=Us X) h (by rw [dB,hX])
theorem Blk.cz (h : Blk w g t (Us (pc X Y Z T)).toArray) (hX : X.length = 5) (hY : Y.length = 5) : w.rangeAt g 10 (Us Z):=by
 rw [Bm,<-aU] at h;exact Blk.M2 h (by simp [dB,hX,hY])
theorem Blk.ct (h : Blk w g t (Us (pc X Y Z T)).toArray) (hX : X.length = 5) (hY : Y.length = 5) (hZ : Z.length = 5) : w.rangeAt g 15 (Us T):=by
 rw [Bm,<-aU,<-aU] at h
 have h2 : Blk w g t (Us X ++ Us Y ++ Us Z ++ (Us T ++ [])).toArray:=by rw [bV]; exact h
 exact Blk.M2 h2 (by simp [dB,hX,hY,hZ])
end
theorem FO (b : Nat) (w : World) : (kA 118 (.pointer (some ⟨b,0,none⟩)) 0).run Tryz.prog w = .ok (.pointer (some ⟨b,0,none⟩)) w:=by go_simp
theorem DH (b : Nat) (w : World) : (kA 118 (.pointer (some ⟨b,0,none⟩)) 1).run Tryz.prog w = .ok (.pointer (some ⟨b,5,none⟩)) w:=by go_simp
theorem Iw (b : Nat) (w : World) : (kA 118 (.pointer (some ⟨b,0,none⟩)) 2).run Tryz.prog w = .ok (.pointer (some ⟨b,10,none⟩)) w:=by go_simp
theorem Ra (b : Nat) (w : World) : (kA 118 (.pointer (some ⟨b,0,none⟩)) 3).run Tryz.prog w = .ok (.pointer (some ⟨b,15,none⟩)) w:=by go_simp
theorem YN (b : Nat) (w : World) : (kA 137 (.pointer (some ⟨b,0,none⟩)) 0).run Tryz.prog w = .ok (.pointer (some ⟨b,0,none⟩)) w:=by go_simp
theorem YM (b : Nat) (w : World) : (kA 137 (.pointer (some ⟨b,0,none⟩)) 1).run Tryz.prog w = .ok (.pointer (some ⟨b,5,none⟩)) w:=by go_simp
theorem YL (b : Nat) (w : World) : (kA 137 (.pointer (some ⟨b,0,none⟩)) 2).run Tryz.prog w = .ok (.pointer (some ⟨b,10,none⟩)) w:=by go_simp
theorem YK (b : Nat) (w : World) : (kA 137 (.pointer (some ⟨b,0,none⟩)) 3).run Tryz.prog w = .ok (.pointer (some ⟨b,15,none⟩)) w:=by go_simp
theorem Ki (parts : List (Nat × Value)) : Tryz.prog.built 118 parts = gN (#[(0,5),(5,5),(10,5),(15,5)][·]?) (Us zl ++ (Us zl ++ (Us zl ++ Us zl))).toArray parts :=
 Dc (t:=118) (z:=(Us pz).toArray) (pl:=[(0,5),(5,5),(10,5),(15,5)]) (by kernel_rfl)
theorem WE (parts : List (Nat × Value)) : Tryz.prog.built 137 parts = gN (#[(0,5),(5,5),(10,5),(15,5)][·]?) (Us zl ++ (Us zl ++ (Us zl ++ Us zl))).toArray parts :=
 Dc (t:=137) (z:=(Us pz).toArray) (pl:=[(0,5),(5,5),(10,5),(15,5)]) (by kernel_rfl)
theorem UT {X : List Nat} (hX : X.length = 5) (rest : List (Nat × Value)) : gN (#[(0,5),(5,5),(10,5),(15,5)][·]?) (Us zl ++ (Us zl ++ (Us zl ++ Us zl))).toArray ((0,.agg (Us X).toArray) :: rest) = gN (#[(0,5),(5,5),(10,5),(15,5)][·]?) (Us X ++ (Us zl ++ (Us zl ++ Us zl))).toArray rest:=by
 have h:=lV (#[(0,5),(5,5),(10,5),(15,5)][·]?) 0 5 [] (Us zl) (Us zl ++ (Us zl ++ Us zl)) (Us X) rest rfl (by rw [dB,hX]) rfl;rw [kG,kG] at h;exact h
section
variable {X Y Z T : List Nat} (hX : X.length = 5) (hY : Y.length = 5) (hZ : Z.length = 5) (hT : T.length = 5)
include hX hY hZ
theorem XQ : gN (#[(0,5),(5,5),(10,5),(15,5)][·]?) (Us zl ++ (Us zl ++ (Us zl ++ Us zl))).toArray [(0,.agg (Us X).toArray),(1,.agg (Us Y).toArray),(2,.agg (Us Z).toArray)] = some (Us X ++ (Us Y ++ (Us Z ++ Us zl))).toArray:=by
 rw [UT hX,lV _ 1 5 (Us X) (Us zl) (Us zl ++ Us zl) (Us Y) _ (by rw [dB,hX]; rfl) (by rw [dB,hY]) rfl]
 have e : Us X ++ (Us Y ++ (Us zl ++ Us zl)) = (Us X ++ Us Y) ++ (Us zl ++ Us zl):=by rw [aU]
 rw [e,lV _ 2 5 (Us X ++ Us Y) (Us zl) (Us zl) (Us Z) _ (by simp [dB,hX,hY]) (by rw [dB,hZ]) rfl,aU]
 rfl
include hT
theorem US : gN (#[(0,5),(5,5),(10,5),(15,5)][·]?) (Us zl ++ (Us zl ++ (Us zl ++ Us zl))).toArray [(0,.agg (Us X).toArray),(1,.agg (Us Y).toArray),(2,.agg (Us Z).toArray),(3,.agg (Us T).toArray)] = some (Us (pc X Y Z T)).toArray:=by
 rw [UT hX,lV _ 1 5 (Us X) (Us zl) (Us zl ++ Us zl) (Us Y) _ (by rw [dB,hX]; rfl) (by rw [dB,hY]) rfl]
 have e : Us X ++ (Us Y ++ (Us zl ++ Us zl)) = (Us X ++ Us Y) ++ (Us zl ++ Us zl):=by rw [aU]
 rw [e,lV _ 2 5 (Us X ++ Us Y) (Us zl) (Us zl) (Us Z) _ (by simp [dB,hX,hY]) (by rw [dB,hZ]) rfl]
 have e2 : Us X ++ Us Y ++ (Us Z ++ Us zl) = (Us X ++ (Us Y ++ Us Z)) ++ (Us zl ++ []):=by simp
 rw [e2,lV _ 3 5 (Us X ++ (Us Y ++ Us Z)) (Us zl) [] (Us T) _ (by simp [dB,hX,hY,hZ]) (by rw [dB,hT]) rfl,Bm]
 simp [gN]
theorem FQ : Tryz.prog.built 118 [(0,.agg (Us X).toArray),(1,.agg (Us Y).toArray),(2,.agg (Us Z).toArray),(3,.agg (Us T).toArray)] = some (Us (pc X Y Z T)).toArray:=by rw [Ki,US hX hY hZ hT]
theorem Uh : Tryz.prog.built 137 [(0,.agg (Us X).toArray),(1,.agg (Us Y).toArray),(2,.agg (Us Z).toArray),(3,.agg (Us T).toArray)] = some (Us (pc X Y Z T)).toArray:=by rw [WE,US hX hY hZ hT]
omit hT
theorem Ug : Tryz.prog.built 118 [(0,.agg (Us X).toArray),(1,.agg (Us Y).toArray),(2,.agg (Us Z).toArray)] = some (Us (pc X Y Z zl)).toArray:=by rw [Ki,XQ hX hY hZ,Bm]
end
theorem tO : Tryz.prog.built 118 [] = some (Us pz).toArray:=by rw [Ki]; rfl
theorem BN (w : World) (A V Z : List Nat) (off : Nat) (ho : A.length = off) (hV : V.length = 5) : (part 116 (Us A ++ (Us V ++ Us Z)).toArray off).run Tryz.prog w = .ok (.agg (Us V).toArray) w:=by
 have hagg : (isAgg 116).run Tryz.prog w = .ok true w:=by
  unfold isAgg
  rw [aJ,run_underlying Tryz.underlying116 w]
  rfl
 have hs : (sizeOf 116).run Tryz.prog w = .ok 5 w:=by kernel_rfl
 have he : (Us A ++ (Us V ++ Us Z)).toArray.extract off (off + 5) = (Us V).toArray:=by
  apply Array.ext'
  simp only [List.extract_toArray,List.extract_eq_take_drop];rw [List.drop_append,List.drop_eq_nil_of_le (by rw [dB]; omega),dB,ho,sT,List.drop_zero,kG,AQ,List.take_append,dB,hV,sT,List.take_zero,bV,bW (by rw [dB,hV]; exact aH _)]
 unfold part
 simp only [aJ,hagg,aF,if_true,hs,aK,he]
theorem wM (d : Nat) (l m : List Nat) (hl : l.length = 5) (hm : m.length = 5) (w : World) :
  (fH (d + 3) 116 (.agg (Us l).toArray) (.agg (Us m).toArray)).run Tryz.prog w = .ok (decide (l = m)) w:=by
 have he:=xD d 5 114 l m Tryz.underlying114 hl hm w
 have hst : Tryz.prog.stoodInHeld 116 = false:=by kernel_rfl
 rw [fH];simp only [aJ,run_underlying Tryz.underlying116,aF,run_program,hst];rw [if_neg (by decide)];have hp:=Cr w l hl;have hq:=Cr w m hm;generalize decide (l = m) = q at *
 cases q <;> simp [aJ,hp,hq,he,aK]
theorem Iq (X Y Z T X' Y' Z' T' : List Nat) (hX : X.length = 5) (hY : Y.length = 5) (hZ : Z.length = 5) (hT : T.length = 5) (hX' : X'.length = 5) (hY' : Y'.length = 5) (hZ' : Z'.length = 5) (hT' : T'.length = 5) (w : World) :
  (fH 10000 118 (.agg (Us (pc X Y Z T)).toArray) (.agg (Us (pc X' Y' Z' T')).toArray)).run Tryz.prog w = .ok (decide (X = X' /\ Y = Y' /\ Z = Z' /\ T = T')) w:=by
 have e1:=wM 9996 X X' hX hX' w;have e2:=wM 9996 Y Y' hY hY' w;have e3:=wM 9996 Z Z' hZ hZ' w;have e4:=wM 9996 T T' hT hT' w
 have p1 : ∀ X Y Z T : List Nat,X.length = 5 -> (part 116 (Us (pc X Y Z T)).toArray 0).run Tryz.prog w = .ok (.agg (Us X).toArray) w:=λX Y Z T h=>by
  have:=BN w [] X (Y ++ (Z ++ T)) 0 rfl h
  simpa [pc,Us] using this
 have p2 : ∀ X Y Z T : List Nat,X.length = 5 -> Y.length = 5 -> (part 116 (Us (pc X Y Z T)).toArray 5).run Tryz.prog w = .ok (.agg (Us Y).toArray) w:=λX Y Z T h h2=>by
  have:=BN w X Y (Z ++ T) 5 h h2
  simpa [pc,Us] using this
 have p3 : ∀ X Y Z T : List Nat,X.length = 5 -> Y.length = 5 -> Z.length = 5 -> (part 116 (Us (pc X Y Z T)).toArray 10).run Tryz.prog w = .ok (.agg (Us Z).toArray) w:=λX Y Z T h h2 h3=>by
  have:=BN w (X ++ Y) Z T 10 (by simp [h,h2]) h3
  simpa [pc,Us] using this
 have p4 : ∀ X Y Z T : List Nat,X.length = 5 -> Y.length = 5 -> Z.length = 5 -> T.length = 5 -> (part 116 (Us (pc X Y Z T)).toArray 15).run Tryz.prog w = .ok (.agg (Us T).toArray) w:=λX Y Z T h h2 h3 h4=>by
  have:=BN w (X ++ (Y ++ Z)) T [] 15 (by simp [h,h2,h3]) h4
  simpa [pc,Us] using this
 have hst : Tryz.prog.stoodInHeld 118 = false:=by kernel_rfl
 have a1:=p1 X Y Z T hX;have a2:=p2 X Y Z T hX hY;have a3:=p3 X Y Z T hX hY hZ;have a4:=p4 X Y Z T hX hY hZ hT;have b1:=p1 X' Y' Z' T' hX';have b2:=p2 X' Y' Z' T' hX' hY';have b3:=p3 X' Y' Z' T' hX' hY' hZ';have b4:=p4 X' Y' Z' T' hX' hY' hZ' hT';generalize (Us (pc X Y Z T)).toArray = u at *;generalize (Us (pc X' Y' Z' T')).toArray = v at *;clear p1 p2 p3 p4;rw [fH];simp only [aJ,run_underlying Tryz.underlying118,aF,run_program,hst];rw [if_neg (by decide)]
 by_cases h1 : X = X' <;> by_cases h2 : Y = Y' <;> by_cases h3 : Z = Z' <;> by_cases h4 : T = T' <;>
  simp only [h1,h2,h3,h4,decide_true,decide_false,and_true,and_false] at e1 e2 e3 e4 ⊢ <;>
  simp [aJ,a1,a2,a3,a4,b1,b2,b3,b4,e1,e2,e3,e4,h1,h2,h3,h4,aK]
structure QB (l : List Nat) (A : Ed.Pt p) : Prop where
  ex : ∃ X Y Z T x y z t,l = pc X Y Z T /\ EB X x /\ EB Y y /\ EB Z z /\ EB T t /\ Ed.Rep x y z A /\ t * z = x * y
  on : Ed.On dd A
def PB (l : List Nat) (A : Ed.Pt p) : Prop:=(l = pz /\ A = Ed.zero) \/ QB l A
structure AB (l : List Nat) (A : Ed.Pt p) : Prop where
  ex : ∃ X Y Z T x y z t,l = pc X Y Z T /\ EB X (y + x) /\ EB Y (y - x) /\ EB Z (z + z) /\ EB T ((t + t) * dd) /\ Ed.Rep x y z A /\ t * z = x * y
  on : Ed.On dd A
theorem QB.len {l : List Nat} {A : Ed.Pt p} (h : QB l A) : l.length = 20:=by
 obtain ⟨⟨X,Y,Z,T,x,y,z,t,rfl,hX,hY,hZ,hT,_⟩,_⟩:=h;exact lC hX.len hY.len hZ.len hT.len
theorem AB.len {l : List Nat} {A : Ed.Pt p} (h : AB l A) : l.length = 20:=by
 obtain ⟨⟨X,Y,Z,T,x,y,z,t,rfl,hX,hY,hZ,hT,_⟩,_⟩:=h;exact lC hX.len hY.len hZ.len hT.len
theorem PB.len {l : List Nat} {A : Ed.Pt p} (h : PB l A) : l.length = 20:=by
 rcases h with ⟨rfl,_⟩ | h
 ·rfl
 ·exact h.len
theorem PB.on {l : List Nat} {A : Ed.Pt p} (h : PB l A) : Ed.On dd A:=by
 rcases h with ⟨_,rfl⟩ | h
 ·exact Ed.tD
 ·exact h.on
theorem Xy {l : List Nat} {z : F} (h : EB l z) (hz : z ≠ 0) : l ≠ zl:=by
 rintro rfl
 exact hz (h.val.symm.trans vB)
theorem QB.ne {X Y Z T : List Nat} {z : F} (hZ : EB Z z) (hz : z ≠ 0) : ¬ (X = zl /\ Y = zl /\ Z = zl /\ T = zl):=λh=>Xy hZ hz h.2.2.1
theorem Fm : Own 85:=λ_ _=>by go_simp
theorem tC : Own 88:=λ_ _=>by go_simp
theorem CB : Own 96:=λ_ _=>by go_simp
theorem CC : Own 106:=λ_ _=>by go_simp
theorem He : Own 104:=λ_ _=>by go_simp
theorem rD : Own 98:=λ_ _=>by go_simp
theorem sG : Own 84:=λ_ _=>by go_simp
section
variable {ops : Array Oper} {C0 : World -> Prop} {Q : Act -> Prop} {N : Nat} {E : List (Nat × Value)} {o : Oper} {rest : List Oper} {k : Nat}
theorem dU {x : Operand} {l : List Nat} (b off : Nat) (hl : l.length = 5) (hg : o.guard = none) (hd : o.dst = some k) (hk : aQ k N = true) (ho : o.op = .load 116 x) (hx : ev E x = some (.pointer (some ⟨b,off,none⟩)))
  (hc : ∀ w,C0 w -> w.rangeAt b off (Us l)) (hn : bF Tryz.prog ops C0 Q rest N ((k,.agg (Us l).toArray) :: E)) : bF Tryz.prog ops C0 Q (o :: rest) N E :=
 Bj b off (Us l) _ hg hd hk ho hx hc Tryz.underlying116 rfl (Ot hl) hn
theorem rT {x : Operand} {l : List Nat} (b off : Nat) (hl : l.length = 20) (hg : o.guard = none) (hd : o.dst = some k) (hk : aQ k N = true) (ho : o.op = .load 118 x) (hx : ev E x = some (.pointer (some ⟨b,off,none⟩)))
  (hc : ∀ w,C0 w -> w.rangeAt b off (Us l)) (hn : bF Tryz.prog ops C0 Q rest N ((k,.agg (Us l).toArray) :: E)) : bF Tryz.prog ops C0 Q (o :: rest) N E :=
 Bj b off (Us l) _ hg hd hk ho hx hc Tryz.underlying118 rfl (KK (by rw [dB,hl])) hn
theorem XW {x : Operand} {l : List Nat} (b off : Nat) (hl : l.length = 20) (hg : o.guard = none) (hd : o.dst = some k) (hk : aQ k N = true) (ho : o.op = .load 137 x) (hx : ev E x = some (.pointer (some ⟨b,off,none⟩)))
  (hc : ∀ w,C0 w -> w.rangeAt b off (Us l)) (hn : bF Tryz.prog ops C0 Q rest N ((k,.agg (Us l).toArray) :: E)) : bF Tryz.prog ops C0 Q (o :: rest) N E :=
 Bj b off (Us l) _ hg hd hk ho hx hc Tryz.underlying137 rfl (KL (by rw [dB,hl])) hn
theorem fC {f : FuncId} {xs : Array Operand} {ats : Array TypeId} (args : Array Value) (V : List Nat -> Prop) (hg : o.guard = none) (hd : o.dst = some k) (hk : aQ k N = true)
  (hf : Own f) (hc : ∀ w,C0 w -> Calls Tryz.prog f args w (λe w'=>∃ r,V r /\ e = .returned (.agg (Us r).toArray) /\ Below w.heap.size w w'))
  (ho : o.op = .call { callee:=.value (.func f),args:=xs,argTypes:=ats }) (hx : xs.toList.map (ev E) = args.toList.map some) (hn : ∀ r,V r -> bF Tryz.prog ops C0 Q rest N ((k,.agg (Us r).toArray) :: E)) : bF Tryz.prog ops C0 Q (o :: rest) N E:=by
 refine tK args (λv=>∃ r,V r /\ v = .agg (Us r).toArray) hg hd hk hf (λw hw=>(hc w hw).mono ?_) ho hx ?_
 ·rintro e w2 ⟨r,hr,rfl,hw2⟩
  exact ⟨_,rfl,⟨r,hr,rfl⟩,hw2⟩
 ·rintro _ ⟨r,hr,rfl⟩
  exact hn r hr
end
section
variable {ops : Array Oper} {C0 : World -> Prop} {Q : Act -> Prop} {N : Nat} {E : List (Nat × Value)} {o : Oper} {rest : List Oper} {k : Nat}
theorem Il {f : FuncId} {xs : Array Operand} {ats : Array TypeId} (args : Array Value) (x : F) (hg : o.guard = none) (hd : o.dst = some k) (hk : aQ k N = true)
  (hf : Own f) (hc : ∀ w,C0 w -> Calls Tryz.prog f args w (λe w'=>∃ r,EB r x /\ e = .returned (.tuple #[.agg (Us r).toArray,.bool true]) /\ Below w.heap.size w w'))
  (ho : o.op = .call { callee:=.value (.func f),args:=xs,argTypes:=ats }) (hx : xs.toList.map (ev E) = args.toList.map some) (hn : ∀ r,EB r x -> bF Tryz.prog ops C0 Q rest N ((k,.tuple #[.agg (Us r).toArray,.bool true]) :: E)) : bF Tryz.prog ops C0 Q (o :: rest) N E:=by
 refine tK args (λv=>∃ r,EB r x /\ v = .tuple #[.agg (Us r).toArray,.bool true]) hg hd hk hf (λw hw=>(hc w hw).mono ?_) ho hx ?_
 ·rintro e w2 ⟨r,hr,rfl,hw2⟩
  exact ⟨_,rfl,⟨r,hr,rfl⟩,hw2⟩
 ·rintro _ ⟨r,hr,rfl⟩
  exact hn r hr
end
theorem UW (w : World) : (fH 10000 118 (.agg (Us pz).toArray) (.agg (Us pz).toArray)).run Tryz.prog w = .ok true w:=by
 have:=Iq zl zl zl zl zl zl zl zl rfl rfl rfl rfl rfl rfl rfl rfl w;rw [decide_eq_true ⟨rfl,rfl,rfl,rfl⟩] at this;exact this
theorem UK {l : List Nat} {A : Ed.Pt p} (h : QB l A) (w : World) : (fH 10000 118 (.agg (Us l).toArray) (.agg (Us pz).toArray)).run Tryz.prog w = .ok false w:=by
 obtain ⟨⟨X,Y,Z,T,x,y,z,t,rfl,hX,hY,hZ,hT,hr,_⟩,_⟩:=h;have:=Iq X Y Z T zl zl zl zl hX.len hY.len hZ.len hT.len rfl rfl rfl rfl w;rw [decide_eq_false (QB.ne hZ hr.z)] at this;exact this
theorem dZ {l : List Nat} (h : l.length = 20) : (Tryz.prog.info? 118).map (·.size) = some (Us l).toArray.size:=KK (aV h)
theorem Jb {l : List Nat} (h : l.length = 20) : (Tryz.prog.info? 137).map (·.size) = some (Us l).toArray.size:=KL (aV h)
theorem gG {l : List Nat} (h : l.length = 5) : (Tryz.prog.info? 116).map (·.size) = some (Us l).toArray.size:=by
 rw [aV h]
 kernel_rfl
theorem Tw.only {w w' : World} {g : Nat} (h : Tw w) (ho : vK w w' g) (hg : 2 < g) : Tw w':=⟨λi hi=>by rw [ho.cell _ (by show (2 : Nat) ≠ g; omega)]; exact h.cell i hi,by rw [ho.size]; exact h.lt⟩
theorem NZ {l : List Nat} (hl : l.length = 5) (hb : ∀ y ∈ l,y < 2251799813685248) {k : Nat} (hk : k < 4) :
  bits .or .u64 ((l[64 * k / 51]! : Nat) / 2 ^ (64 * k % 51) : Int) (IntKind.u64.wrap ((l[64 * k / 51 + 1]! : Nat) * 2 ^ (51 - 64 * k % 51) : Int)) = ((wd (lv l) k : Nat) : Int):=by
 obtain ⟨a0,a1,a2,a3,a4,rfl⟩:=Bv hl;have h0:=hb a0 (by simp);have h1:=hb a1 (by simp);have h2:=hb a2 (by simp);have h3:=hb a3 (by simp);have h4:=hb a4 (by simp)
 unfold wd
 rw [lv5]
 have h4' : k = 0 \/ k = 1 \/ k = 2 \/ k = 3:=by omega
 have key : ∀ (i x y r t L : Nat),y * 2 ^ t % 18446744073709551616 % 2 ^ i = 0 -> x / 2 ^ r < 2 ^ i -> x / 2 ^ r < 18446744073709551616 -> y * 2 ^ t % 18446744073709551616 + x / 2 ^ r = L ->
   bits .or .u64 ((x : Nat) / 2 ^ r : Int) (IntKind.u64.wrap ((y : Nat) * 2 ^ t : Int)) = (L : Int):=by
  intro i x y r t L e1 e2 e3 e4
  have f1 : ((x : Int) / 2 ^ r) = ((x / 2 ^ r : Nat) : Int):=by simp
  have f2 : IntKind.u64.wrap ((y : Int) * 2 ^ t) = ((y * 2 ^ t % 18446744073709551616 : Nat) : Int):=by
   rw [aP]
   simp
  rw [f1,f2,<-e4,u64_or_nat _ _ e3 (by omega),Nat.or_comm,nat_join i _ _ e1 e2]
 rcases h4' with rfl | rfl | rfl | rfl
 ·exact key 51 a0 a1 0 51 _ (by omega) (by omega) (by omega) (by simp only [jD]; omega)
 ·exact key 38 a1 a2 13 38 _ (by omega) (by omega) (by omega) (by simp only [jD]; omega)
 ·exact key 25 a2 a3 26 25 _ (by omega) (by omega) (by omega) (by simp only [jD]; omega)
 ·exact key 12 a3 a4 39 12 _ (by omega) (by omega) (by omega) (by simp only [jD]; omega)
structure HSt (w wr : World) (g : Nat) (l : List Nat) (b : List UInt8) (n : Nat) : Prop where
  b1 : Blk wr (w.heap.size + 1) 27 z32
  b2 : Blk wr g 116 (Us l).toArray
  b3 : Blk wr (g + 1) 27 (By (fb b n)).toArray
  be : Below w.heap.size w wr
  hg : w.heap.size + 1 < g
theorem HSt.drew {w wr : World} {g : Nat} {l : List Nat} {b : List UInt8} {n : Nat} (h : HSt w wr g l b n) : HSt w wr.drew g l b n:=⟨h.b1,h.b2,h.b3,h.be.drew,h.hg⟩
theorem HSt.set {w wr : World} {g : Nat} {l : List Nat} {b : List UInt8} {n : Nat} (h : HSt w wr g l b n) : HSt w (wr.setCell ⟨g + 1,n,none⟩ (.int .u8 ((b[n]!).toNat : Int))) g l b (n + 1) where
 b1:=h.b1.far (by have:=h.hg; simp; omega) _
 b2:=h.b2.far (by simp) _
 b3:=by
  have h4:=h.b3.set n (.int .u8 ((b[n]!).toNat : Int));rw [rX,J1] at h4;exact h4
 be:=h.be.setCell (by have:=h.hg; simp; omega) _
 hg:=h.hg
theorem FE {a : List Nat} {x : F} (ha : EB a x) (w : World) :
  Calls Tryz.prog 91 #[.agg (Us a).toArray] w λe w'=>e = .returned (.agg (By (enc x)).toArray) /\ Below w.heap.size w w':=by
 obtain ⟨hl,hb,hL⟩:=oD ha
 have hbyte : ∀ m,m < 32 -> ((enc x)[m]!).toNat = lv (whole a) / 256 ^ m % 256:=λm hm=>by
  rw [hL];exact oN 32 x.val hm
 have hbl : (enc x).length = 32:=lI x;have h0 : ∀ u,Blk ((w.alloc (gZ (Us a).toArray 116)).alloc u) w.heap.size 116 (Us a).toArray:=λu=>(Blk.new w _ _).alloc u;have h1 : Blk ((w.alloc (gZ (Us a).toArray 116)).alloc (gZ z32 27)) (w.heap.size + 1) 27 z32:=heap_alloc2_new w _ _;have hbel : Below w.heap.size w ((w.alloc (gZ (Us a).toArray 116)).alloc (gZ z32 27)):=((Below.refl _ _).alloc (aH _) _).alloc (by simp) _;have HWH:=λw1=>aL (BF ha w1);have HK:=aL (a5 h1 hbel);have hza:=cG ha.len;clear hL h1 hbel;generalize enc x = b at *;generalize whole a = l at *
 go_enter Tryz.func91,Tryz.ntmps91
 go_wp2_with (refine wpList_load_row rfl 116 _ rfl w.heap.size rfl 116 (Us a).toArray (0,0) _ (h0 _) Tryz.underlying116 rfl (bT _ hza) ?_)
 refine (HWH _).out.mono ?_
 rintro e w1 ⟨rfl,hw1⟩
 obtain ⟨h1,hbel⟩:=HK.out;have hbe:=hbel.trans (hw1.mono hbel.size);have h2:=h1.below hw1 h1.lt;have h2s:=h2.lt;have hn : Blk (w1.alloc (gZ z5 116)) w1.heap.size 116 z5:=Blk.new w1 _ _;have hzl:=cG hl
 have h3 : HSt w (((w1.alloc (gZ z5 116)).setRow w1.heap.size (Us l).toArray).alloc (gZ z32 27)) w1.heap.size l b 0:=by
  have hb3:=Blk.new ((w1.alloc (gZ z5 116)).setRow w1.heap.size (Us l).toArray) 27 z32;rw [size_setRow,World.size_alloc] at hb3;refine ⟨((h2.alloc _).aT (by omega) _).alloc _,(hn.row _).alloc _,?_,?_,h2s⟩
  ·rw [FI]
   exact hb3
  ·have hq:=below_setRow (cs:=(Us l).toArray) (hbe.alloc (o:=gZ z5 116) hbe.size) (g:=w1.heap.size) (by omega)
   exact hq.alloc hq.size _
 have H3:=aL h3;clear h3 h2 h2s hbe hw1 h1 hbel HK HWH h0;generalize hg : w1.heap.size = g at *
 go_wp2_with (refine wpList_store_row rfl 116 _ _ rfl g rfl (Us l).toArray rfl 116 _ hn (bT _ hzl) (by rw [hzl]; rfl) (cO _) ?_)
 clear hg hn
 go_loopw [11] (λi wr=>∃ k : Nat,k <= 4 /\ i = .int .i64 k /\ HSt w wr g l b (8 * k)) (λi _=>4 - (intOf i).toNat)
 case atStart=>exact ⟨0,by omega,rfl,H3.out⟩
 case round =>
  clear H3;obtain ⟨k,hk,rfl,hS⟩:=hrel
  by_cases hlt : k < 4
  ·have hwd:=NZ hl hb hlt
   have hW : wd (lv l) k < 18446744073709551616:=Nat.mod_lt _ (by decide)
   have hby : ∀ j,j < 8 -> (b[8 * k + j]!).toNat = wd (lv l) k / 2 ^ (8 * j) % 256:=λj hj=>by
    rw [KA _ _ _ hj,hbyte _ (by omega)]
   have c0:=(hS.b2.drew.cell (64 * k / 51)).trans (iY (by omega));have c1:=(hS.b2.drew.cell (64 * k / 51 + 1)).trans (iY (by omega))
   have qA : IntKind.i64.wrap (64 * (k : Int)) = ((64 * k : Nat) : Int):=by rw [i64_left,wrap64_in _ (by omega)]; omega
   have qd : ((64 * k : Nat) : Int).tdiv 51 = ((64 * k / 51 : Nat) : Int):=rfl;have qm : ((64 * k : Nat) : Int).tmod 51 = ((64 * k % 51 : Nat) : Int):=rfl
   have qs : IntKind.i64.wrap (((64 * k / 51 : Nat) : Int) + 1) = ((64 * k / 51 + 1 : Nat) : Int):=by rw [i64_left,wrap64_in _ (by omega)]; omega
   have qt : IntKind.i64.wrap (51 - ((64 * k % 51 : Nat) : Int)) = ((51 - 64 * k % 51 : Nat) : Int):=by rw [i64_left,wrap64_in _ (by omega)]; omega
   have g1 : ((64 * k / 51 + 1 : Nat) : Int) < 5:=by omega
   have g2 : ((64 * k / 51 : Nat) : Int) < 5:=by omega
   have g3 : ((64 * k % 51 : Nat) : Int) <= 64:=by omega
   have g4 : ((51 - 64 * k % 51 : Nat) : Int) <= 64:=by omega
   have g5 : (0 : Int) <= (k : Int):=by omega
   generalize wd (lv l) k = W at *;generalize l[64 * k / 51]! = u at *;generalize l[64 * k / 51 + 1]! = v at *;generalize 51 - 64 * k % 51 = t at *;generalize 64 * k % 51 = r at *;generalize 64 * k / 51 + 1 = q1 at *;generalize 64 * k / 51 = q at *;generalize 64 * k = A at *;have HS:=aL hS;clear hS
   go_wp2
   go_region
   clear qA qd qm qs qt g1 g2 g3 g4 c0 c1 hwd
   go_wp2
   go_loopw [35] (λi wq=>∃ j : Nat,j <= 8 /\ i = .int .i64 j /\ HSt w wq g l b (8 * k + j)) (λi _=>8 - (intOf i).toNat)
   case atStart=>exact ⟨0,by omega,rfl,HS.out.drew⟩
   case round =>
    clear HS;obtain ⟨j,hj,rfl,hS⟩:=hrel
    by_cases hlj : j < 8
    ·have hbj:=hby j hlj
     have q4 : IntKind.u8.wrap ((W : Int) / 2 ^ (8 * j)) = ((b[8 * k + j]!).toNat : Int):=by
      have f1 : ((W : Int) / 2 ^ (8 * j)) = ((W / 2 ^ (8 * j) : Nat) : Int):=by simp
      rw [f1,IntKind.wrap_u8',hbj]
      omega
     have hN:=hS.set;have hc:=(hS.b3.cell (8 * k + j)).trans (gJ (by rw [J2]; omega));have hf:=hS.b3.free (8 * k + j)
     have q1 : IntKind.i64.wrap (8 * (k : Int)) = ((8 * k : Nat) : Int):=by rw [i64_left,wrap64_in _ (by omega)]; omega
     have q2 : IntKind.i64.wrap (((8 * k : Nat) : Int) + (j : Int)) = ((8 * k + j : Nat) : Int):=by rw [i64_left,wrap64_in _ (by omega)]; omega
     have q3 : IntKind.i64.wrap (8 * (j : Int)) = ((8 * j : Nat) : Int):=by rw [i64_left,wrap64_in _ (by omega)]; omega
     have g1 : ((8 * k + j : Nat) : Int) < 32:=by omega
     have g2 : ((8 * j : Nat) : Int) <= 64:=by omega
     have e1 : 8 * k + (j + 1) = 8 * k + j + 1:=by omega
     have HN:=aL hN;clear hS hby hbj hN;generalize (b[8 * k + j]!).toNat = y at *;generalize 8 * k + j = m at *;generalize 8 * k = a8 at *;generalize 8 * j = n at *
     go_wp2
     go_roundw
     case rel =>
      exact ⟨j + 1,by omega,by go_num,by rw [e1]; exact HN.out⟩
     case measure=>simp [intOf]; omega
    ·obtain rfl : j = 8:=by omega
     have HS:=aL hS;clear hS
     go_wp2
     go_roundw
     case rel=>exact ⟨k + 1,by omega,by go_num,by rw [show 8 * (k + 1) = 8 * k + 8 by omega]; exact HS.out⟩
     case measure=>simp [intOf]; omega
  ·obtain rfl : k = 4:=by omega
   obtain ⟨b1,b2,b3,be,hg⟩:=hS;rw [show 8 * 4 = 32 from rfl,J3 hbl] at b3
   have hz : (By b).toArray.size = 32:=by rw [a9,cD,hbl]
   clear b2
   go_wp2_with (first
    | (refine wpList_load_row rfl 27 _ rfl (g + 1) rfl 27 (By b).toArray (0,0) _ b3 Tryz.underlying27 rfl (fL _ hz) ?_)
    | (refine wpList_store_row rfl 27 _ _ rfl (w.heap.size + 1) rfl (By b).toArray rfl 27 _ b1 (fL _ hz) (by rw [hz]; rfl) (kU _) ?_))
   refine bodyPost_ret (results_cell_row rfl _ _ (w.heap.size + 1) 27 (By b).toArray (0,0) _ rfl (b1.row _) Tryz.underlying27 rfl (fL _ hz)) rfl ⟨rfl,?_⟩;exact below_setRow be (by omega) _
end Go.Proofs.YtfkchihlchlfdaaGreatDoor
namespace Nums
end Nums
namespace Go.Proofs.YtfkchihlchlfdaaGreatDoor
open Go.RowKit Nums
end Go.Proofs.YtfkchihlchlfdaaGreatDoor
namespace Nums
end Nums
namespace Nums
end Nums
namespace Nums
end Nums
namespace Go.Proofs.YtfkchihlchlfdaaGreatDoor
open Go.RowKit Go.IntWalk Nums
end Go.Proofs.YtfkchihlchlfdaaGreatDoor
namespace Nums
end Nums
namespace Go.Proofs.YtfkchihlchlfdaaGreatDoor
open Go.RowKit Go.IntWalk Nums
def qT (b : List UInt8) : Bool:=decide ((b[31]!).toNat < 128) && decide (enc (fof (le b % 57896044618658097711785492504343953926634992332820282019728792003956564819968)) = b)
theorem Sa (T y q r : Nat) (hr : r < 8) (hT : T < 256 ^ (8 * q + r)) (hy : y < 256) (j : Nat) :
  wd (T + 256 ^ (8 * q + r) * y) j = if j = q then wd T j + 256 ^ r * y else wd T j:=by
 have hp : (256 : Nat) ^ (8 * q + r) = 18446744073709551616 ^ q * 256 ^ r:=by rw [pL,xJ]
 have hr8 : (256 : Nat) ^ (r + 1) <= 18446744073709551616:=xK (by omega) (show r + 1 <= 8 by omega);have hr9 : (256 : Nat) ^ (r + 1) = 256 ^ r * 256:=dD ..;have hm : (256 : Nat) ^ r * y <= 256 ^ r * 255:=m9 (aH _) (by omega);rw [hp] at hT ⊢;have hPq : 0 < (18446744073709551616 : Nat) ^ q:=NK (by omega)
 unfold wd
 by_cases hjq : j = q
 ·subst hjq
  rw [if_pos rfl,k6,DN _ _ hPq];have hz : T / 18446744073709551616 ^ j < 256 ^ r:=DM hT;rw [bR (by omega),bR (by omega)]
 ·rw [if_neg hjq]
  rcases Nat.lt_or_gt_of_ne hjq with hlt | hgt
  ·obtain ⟨d,rfl⟩ : ∃ d,q = j + 1 + d:=⟨q - j - 1,by omega⟩
   have e : (18446744073709551616 : Nat) ^ (j + 1 + d) * 256 ^ r * y = 18446744073709551616 ^ j * (18446744073709551616 * (18446744073709551616 ^ d * 256 ^ r * y)):=by
    rw [pL,dD];simp only [k6]
   rw [e,DN _ _ (NK (by omega)),Nat.add_mul_mod_self_left]
  ·obtain ⟨d,rfl⟩ : ∃ d,j = q + 1 + d:=⟨j - q - 1,by omega⟩
   have e : (18446744073709551616 : Nat) ^ (q + 1 + d) = 18446744073709551616 ^ q * 18446744073709551616 * 18446744073709551616 ^ d:=by rw [pL,dD]
   have hd : 0 < (18446744073709551616 : Nat) ^ d:=NK (by omega)
   have hb : 18446744073709551616 ^ q * 18446744073709551616 <= (18446744073709551616 : Nat) ^ (q + 1 + d):=by
    rw [e];exact Nat.le_mul_of_pos_right _ hd
   have h1 : 18446744073709551616 ^ q * 256 ^ r + 18446744073709551616 ^ q * 256 ^ r * y <= 18446744073709551616 ^ q * 18446744073709551616:=by
    rw [k6,<-Nat.mul_add];exact m9 (aH _) (by omega)
   rw [Nat.div_eq_of_lt (by omega),Nat.div_eq_of_lt (by omega)]
theorem Lk {b : List UInt8} {n : Nat} (h : n < b.length) : le (b.take (n + 1)) = le (b.take n) + 256 ^ n * (b[n]!).toNat:=by
 rw [List.take_succ_eq_append_getElem h,mA,aY,cW (by omega),getElem!_pos b n h]
 show le (b.take n) + 256 ^ n * ((b[n]).toNat + 256 * 0) = _
 rw [Nat.mul_zero,Nat.add_zero]
def wds (b : List UInt8) (n : Nat) : List Nat:=(tT 5).map λj=>wd (le (b.take n)) j
theorem EP (b : List UInt8) (n : Nat) : (wds b n).length = 5:=by simp [wds]
theorem Kz (b : List UInt8) (n : Nat) {j : Nat} (h : j < 5) : (wds b n)[j]! = wd (le (b.take n)) j:=by
 rw [getElem!_pos _ j (by rw [EP]; exact h)]
 simp [wds]
theorem NX (b : List UInt8) : wds b 0 = [0,0,0,0,0]:=by
 have e : ∀ j,wd (le (b.take 0)) j = 0:=λj=>by
  show 0 / _ % _ = 0
  rw [Nat.zero_div]
 simp only [wds,e]
 rfl
theorem NY {T n : Nat} (hT : T < 256 ^ n) : wd T (n / 8) < 2 ^ (8 * (n % 8)):=by
 have e : (256 : Nat) ^ n = 18446744073709551616 ^ (n / 8) * 2 ^ (8 * (n % 8)):=by
  have h : (256 : Nat) ^ n = 256 ^ (8 * (n / 8) + n % 8):=by congr 1; omega
  rw [h,pL,xJ,xJ]
 rw [e] at hT;have hz:=DM hT;exact Nat.lt_of_le_of_lt (Nat.mod_le _ _) hz
theorem R9 {b : List UInt8} {n : Nat} (h : n < b.length) : (wds b n).set (n / 8) (wd (le (b.take n)) (n / 8) + 2 ^ (8 * (n % 8)) * (b[n]!).toNat) = wds b (n + 1):=by
 have hT:=Be (b.take n);rw [aY,cW (by omega)] at hT
 have e2 : (256 : Nat) ^ n = 256 ^ (8 * (n / 8) + n % 8):=by congr 1; omega
 have e3 : (2 : Nat) ^ (8 * (n % 8)) = 256 ^ (n % 8):=by rw [xJ]
 have hy:=(b[n]!).toNat_lt
 apply List.ext_getElem (by simp [wds])
 intro j h1 h2
 have hj : j < 5:=by simpa [wds] using h2
 rw [List.getElem_set];simp only [wds,List.getElem_map,List.getElem_range];rw [Lk h,e2,Sa _ _ _ _ (by omega) (by rw [<-e2]; exact hT) hy]
 by_cases hjq : n / 8 = j
 ·subst hjq
  rw [if_pos rfl,if_pos rfl,e3]
 ·rw [if_neg hjq,if_neg (λe=>hjq e.symm)]
theorem Tb {old y m : Nat} (hm : m <= 56) (hold : old < 2 ^ m) (hy : y < 256) :
  bits .or .u64 (old : Int) (IntKind.u64.wrap ((y : Int) * 2 ^ m)) = ((old + 2 ^ m * y : Nat) : Int):=by
 have hp : (2 : Nat) ^ m <= 2 ^ 56:=xK (by omega) hm
 have h56 : (2 : Nat) ^ 56 = 72057594037927936:=by decide
 have hx : y * 2 ^ m <= 255 * 2 ^ 56:=m9 (by omega) hp
 have f2 : IntKind.u64.wrap ((y : Int) * 2 ^ m) = ((y * 2 ^ m : Nat) : Int):=by
  have : ((y : Int) * 2 ^ m) = ((y * 2 ^ m : Nat) : Int):=by simp
  rw [this,sC _ (by omega)]
 rw [f2,u64_or_nat _ _ (by omega) (by omega),Nat.or_comm,nat_join m _ _ (Nat.mul_mod_left ..) hold,Nat.add_comm,Nat.mul_comm]
def lbs (L : Nat) : List Nat:=(tT 5).map λi=>L / 2251799813685248 ^ i % 2251799813685248
theorem VW (L : Nat) : lbs L = mx (λi=>L / 2251799813685248 ^ i % 2251799813685248) [0,0,0,0,0] 5:=rfl
theorem VX (L : Nat) : EB (lbs L) (fof (L % 57896044618658097711785492504343953926634992332820282019728792003956564819968)):=by
 refine EB.mk5 (a0:=L / 2251799813685248 ^ 0 % 2251799813685248) (a1:=L / 2251799813685248 ^ 1 % 2251799813685248) (a2:=L / 2251799813685248 ^ 2 % 2251799813685248) (a3:=L / 2251799813685248 ^ 3 % 2251799813685248) (a4:=L / 2251799813685248 ^ 4 % 2251799813685248) (by omega) (by omega) (by omega) (by omega) (by omega) ?_
 congr 1
 rw [lv5];simp only [jD]
 omega
theorem P6 {L : Nat} (hL : L < 115792089237316195423570985008687907853269984665640564039457584007913129639936) {i : Nat} (hi : i < 5) :
  bits .and .u64 (bits .or .u64 ((wd L (51 * i / 64) : Nat) / 2 ^ (51 * i % 64) : Int) (IntKind.u64.wrap ((wd L (51 * i / 64 + 1) : Nat) * 2 ^ (64 - 51 * i % 64) : Int))) 2251799813685247 = ((L / 2251799813685248 ^ i % 2251799813685248 : Nat) : Int):=by
 have key : ∀ (k x y r t R : Nat),y * 2 ^ t % 18446744073709551616 % 2 ^ k = 0 -> x / 2 ^ r < 2 ^ k -> x / 2 ^ r < 18446744073709551616 -> y * 2 ^ t % 18446744073709551616 + x / 2 ^ r < 18446744073709551616 -> (y * 2 ^ t % 18446744073709551616 + x / 2 ^ r) % 2251799813685248 = R ->
   bits .and .u64 (bits .or .u64 ((x : Nat) / 2 ^ r : Int) (IntKind.u64.wrap ((y : Nat) * 2 ^ t : Int))) 2251799813685247 = (R : Int):=by
  intro k x y r t R e1 e2 e3 e5 e4
  have f1 : ((x : Int) / 2 ^ r) = ((x / 2 ^ r : Nat) : Int):=by simp
  have f2 : IntKind.u64.wrap ((y : Int) * 2 ^ t) = ((y * 2 ^ t % 18446744073709551616 : Nat) : Int):=by
   rw [aP]
   simp
  rw [f1,f2,u64_or_nat _ _ e3 (by omega),Nat.or_comm,nat_join k _ _ e1 e2,En _ e5,e4]
 have h5 : i = 0 \/ i = 1 \/ i = 2 \/ i = 3 \/ i = 4:=by omega
 unfold wd
 rcases h5 with rfl | rfl | rfl | rfl | rfl
 ·exact key 64 (L / 18446744073709551616 ^ 0 % 18446744073709551616) (L / 18446744073709551616 ^ 1 % 18446744073709551616) 0 64 _ (by omega) (by omega) (by omega) (by omega) (by simp only [jD]; omega)
 ·exact key 13 (L / 18446744073709551616 ^ 0 % 18446744073709551616) (L / 18446744073709551616 ^ 1 % 18446744073709551616) 51 13 _ (by omega) (by omega) (by omega) (by omega) (by simp only [jD]; omega)
 ·exact key 26 (L / 18446744073709551616 ^ 1 % 18446744073709551616) (L / 18446744073709551616 ^ 2 % 18446744073709551616) 38 26 _ (by omega) (by omega) (by omega) (by omega) (by simp only [jD]; omega)
 ·exact key 39 (L / 18446744073709551616 ^ 2 % 18446744073709551616) (L / 18446744073709551616 ^ 3 % 18446744073709551616) 25 39 _ (by omega) (by omega) (by omega) (by omega) (by simp only [jD]; omega)
 ·exact key 52 (L / 18446744073709551616 ^ 3 % 18446744073709551616) (L / 18446744073709551616 ^ 4 % 18446744073709551616) 12 52 _ (by omega) (by omega) (by omega) (by omega) (by simp only [jD]; omega)
structure NSt (w wr : World) (b : List UInt8) (n : Nat) : Prop where
  b0 : Blk wr w.heap.size 27 (By b).toArray
  b1 : Blk wr (w.heap.size + 1) 116 z5
  b2 : Blk wr (w.heap.size + 1 + 1) 114 (Us (wds b n)).toArray
  be : Below w.heap.size w wr
theorem UJ {b : List UInt8} (hbl : b.length = 32) (w : World) :
  Calls Tryz.prog 84 #[.agg (By b).toArray] w λe w' =>
   ((qT b = true /\ ∃ r,EB r (fof (le b % 57896044618658097711785492504343953926634992332820282019728792003956564819968)) /\ e = .returned (.tuple #[.agg (Us r).toArray,.bool true])) \/ (qT b = false /\ e = .returned (.tuple #[.agg z5,.bool false]))) /\ Below w.heap.size w w':=by
 have hG : qT b = decide (enc (fof (le b % 57896044618658097711785492504343953926634992332820282019728792003956564819968)) = b):=by
  unfold qT
  by_cases he : enc (fof (le b % 57896044618658097711785492504343953926634992332820282019728792003956564819968)) = b
  ·have h128 : (b[31]!).toNat < 128:=by
    have:=FM (fof (le b % 57896044618658097711785492504343953926634992332820282019728792003956564819968))
    rwa [he] at this
   rw [decide_eq_true h128,Bool.true_and]
  ·rw [decide_eq_false he,Bool.and_false]
 rw [hG];clear hG;have hE:=VX (le b);generalize fof (le b % 57896044618658097711785492504343953926634992332820282019728792003956564819968) = z at *;have hq:=λw1=>BS (enc z) b (lI _) hbl w1;generalize decide (enc z = b) = ok at *;have HH:=λw1=>FE hE w1;have hez:=lI z;generalize enc z = ez at *;have HE:=aL (a5 hE (a5 hq HH));clear hE hq HH
 go_enter Tryz.func84,Tryz.ntmps84
 go_wp2
 go_loopw [9] (λi wr=>∃ n : Nat,n <= 32 /\ i = .int .i64 n /\ NSt w wr b n) (λi _=>32 - (intOf i).toNat)
 case atStart =>
  refine ⟨0,by omega,rfl,nK w _ _ _ _,lW w _ _ _ _,?_,(((Below.refl _ _).alloc (aH _) _).alloc (by simp) _).alloc (by simp; omega) _⟩;rw [NX];exact mG w _ _ _ _
 case round =>
  obtain ⟨n,hn,rfl,h0,h1,h2,hbel⟩:=hrel
  by_cases hlt : n < 32
  ·have hT:=Be (b.take n)
   rw [aY,cW (by omega)] at hT;have hsm:=NY hT;have hN:=R9 (b:=b) (n:=n) (by omega);have c0:=(h2.drew.cell (n / 8)).trans (iY (by rw [EP]; omega));rw [Kz b n (by omega)] at c0;have c1:=(h0.drew.cell n).trans (gJ (by omega));have hf:=h2.drew.free (n / 8);have hy:=(b[n]!).toNat_lt;have hor:=Tb (m:=8 * (n % 8)) (by omega) hsm hy;generalize (b[n]!).toNat = y at *;generalize wd (le (b.take n)) (n / 8) = old at *;have q1 : ((n : Nat) : Int).tdiv 8 = ((n / 8 : Nat) : Int):=rfl;have q2 : ((n : Nat) : Int).tmod 8 = ((n % 8 : Nat) : Int):=rfl
   have q3 : IntKind.i64.wrap (((n % 8 : Nat) : Int) * 8) = ((8 * (n % 8) : Nat) : Int):=by rw [i64_left,wrap64_in _ (by omega)]; omega
   have q4 : IntKind.u64.wrap (y : Int) = (y : Int):=sC y (by omega)
   have q5 : IntKind.i64.wrap ((n / 8 : Nat) : Int) = ((n / 8 : Nat) : Int):=by rw [i64_left,wrap64_in _ (by omega)]
   have q6 : IntKind.i64.wrap ((n % 8 : Nat) : Int) = ((n % 8 : Nat) : Int):=by rw [i64_left,wrap64_in _ (by omega)]
   have g1 : ((n / 8 : Nat) : Int) < 5:=by omega
   have g2 : ((8 * (n % 8) : Nat) : Int) <= 64:=by omega
   have g3 : (0 : Int) <= (n : Int):=by omega
   generalize old + 2 ^ (8 * (n % 8)) * y = nw at *;generalize 8 * (n % 8) = m at *;generalize hq : n / 8 = q at *;generalize n % 8 = r at *;have HK:=aL (a5 h0 (a5 h1 (a5 h2 (a5 hbel hN))));clear h0 h1 h2 hbel hN hT hsm hq hy
   go_wp2
   go_still_tail 14,(by kernel_rfl)
   go_wp2
   go_roundw
   case rel =>
    obtain ⟨h0,h1,h2,hbel,hN⟩:=HK.out;have h4:=h2.set q (.int .u64 (nw : Int));rw [vJ,hN] at h4;exact ⟨n + 1,by omega,by go_num,h0.far (by simp; omega) _,h1.far (by simp) _,h4,(hbel.setCell (by simp; omega) _).drew⟩
   case measure=>simp [intOf]; omega
  ·obtain rfl : n = 32:=by omega
   have hT : b.take 32 = b:=bW (by omega);have hL:=Be b;rw [hbl] at hL
   have hW : ∀ j,j < 5 -> (wds b 32)[j]! = wd (le b) j:=λj hj=>by rw [Kz b 32 hj,hT]
   have hwl:=EP b 32;have hbn:=λo=>Blk.new wr 116 o;have k0 : ∀ o,Blk (wr.alloc o) w.heap.size 27 (By b).toArray:=λo=>h0.alloc o;have k1 : ∀ o,Blk (wr.alloc o) (w.heap.size + 1) 116 z5:=λo=>h1.alloc o;have k2 : ∀ o,Blk (wr.alloc o) (w.heap.size + 1 + 1) 114 (Us (wds b 32)).toArray:=λo=>h2.alloc o;have kb : ∀ o,Below w.heap.size w (wr.alloc o):=λo=>hbel.alloc hbel.size o;have hlt2:=h2.lt;have HK:=aL (a5 k0 (a5 k1 (a5 k2 (a5 kb hbn))));clear h0 h1 h2 hbel k0 k1 k2 kb hbn hlt hn;generalize hg : wr.heap.size = g at *;generalize wds b 32 = W at *
   go_wp2
   generalize ((32 : Nat) : Int) = s32
   go_loopw [27] (λi wq=>∃ k : Nat,k <= 5 /\ i = .int .i64 k /\ Blk wq w.heap.size 27 (By b).toArray /\ Blk wq (w.heap.size + 1) 116 z5 /\ Blk wq (w.heap.size + 1 + 1) 114 (Us W).toArray /\ Blk wq g 116 (Us (mx (λi=>le b / 2251799813685248 ^ i % 2251799813685248) [0,0,0,0,0] k)).toArray /\ Below w.heap.size w wq) (λi _=>5 - (intOf i).toNat)
   case atStart =>
    obtain ⟨k0,k1,k2,kb,hbn⟩:=HK.out;exact ⟨0,by omega,rfl,k0 _,k1 _,k2 _,hbn _,kb _⟩
   case round =>
    clear HK hg;obtain ⟨k,hk,rfl,h0,h1,h2,h3,hbel⟩:=hrel
    by_cases hlt : k < 5
    ·have hN:=Ft (λi=>le b / 2251799813685248 ^ i % 2251799813685248) [0,0,0,0,0] (k:=k)
     have hlb:=P6 hL hlt;have c0:=(h2.drew.cell (51 * k / 64)).trans (iY (by omega));have c1:=(h2.drew.cell (51 * k / 64 + 1)).trans (iY (by omega));rw [hW _ (by omega)] at c0 c1;have hc:=(h3.drew.cell k).trans (iY (by rw [As]; omega));have hf:=h3.drew.free k
     have qA : IntKind.i64.wrap (51 * (k : Int)) = ((51 * k : Nat) : Int):=by rw [i64_left,wrap64_in _ (by omega)]; omega
     have qd : ((51 * k : Nat) : Int).tdiv 64 = ((51 * k / 64 : Nat) : Int):=rfl;have qm : ((51 * k : Nat) : Int).tmod 64 = ((51 * k % 64 : Nat) : Int):=rfl
     have qs : IntKind.i64.wrap (((51 * k / 64 : Nat) : Int) + 1) = ((51 * k / 64 + 1 : Nat) : Int):=by rw [i64_left,wrap64_in _ (by omega)]; omega
     have qt : IntKind.i64.wrap (64 - ((51 * k % 64 : Nat) : Int)) = ((64 - 51 * k % 64 : Nat) : Int):=by rw [i64_left,wrap64_in _ (by omega)]; omega
     have q5 : IntKind.i64.wrap ((51 * k / 64 : Nat) : Int) = ((51 * k / 64 : Nat) : Int):=by rw [i64_left,wrap64_in _ (by omega)]
     have q6 : IntKind.i64.wrap ((51 * k % 64 : Nat) : Int) = ((51 * k % 64 : Nat) : Int):=by rw [i64_left,wrap64_in _ (by omega)]
     have g1 : ((51 * k / 64 + 1 : Nat) : Int) < 5:=by omega
     have g2 : ((51 * k / 64 : Nat) : Int) < 5:=by omega
     have g3 : ((51 * k % 64 : Nat) : Int) <= 64:=by omega
     have g4 : ((64 - 51 * k % 64 : Nat) : Int) <= 64:=by omega
     have g5 : (0 : Int) <= (k : Int):=by omega
     have HK:=aL (a5 h0 (a5 h1 (a5 h2 (a5 h3 (a5 hbel (a5 hN hL))))));have HW:=aL hW;clear h0 h1 h2 h3 hbel hN hL hW;generalize le b / 2251799813685248 ^ k % 2251799813685248 = nw at *;generalize wd (le b) (51 * k / 64) = u at *;generalize wd (le b) (51 * k / 64 + 1) = v at *;generalize 64 - 51 * k % 64 = t at *;generalize 51 * k % 64 = r at *;generalize 51 * k / 64 + 1 = q1 at *;generalize 51 * k / 64 = q at *;generalize 51 * k = A at *
     go_wp2
     go_still_tail 21,(by kernel_rfl)
     go_wp2
     go_roundw
     case rel =>
      obtain ⟨h0,h1,h2,h3,hbel,hN,hL⟩:=HK.out;have h4:=h3.set k (.int .u64 (nw : Int));rw [vJ,hN] at h4;exact ⟨k + 1,by omega,by go_num,h0.far (by simp; omega) _,h1.far (by simp; omega) _,h2.far (by simp; omega) _,h4,(hbel.setCell (by simp; omega) _).drew⟩
     case measure=>simp [intOf]; omega
    ·obtain rfl : k = 5:=by omega
     rw [<-VW] at h3;obtain ⟨hE,hq,HH⟩:=HE.out
     have hzb : (By b).toArray.size = 32:=by rw [a9,cD,hbl]
     have hzl:=cG hE.len;clear hW hwl hT hL HE h2;generalize lbs (le b) = l at *;have HK2:=aL (a5 hE hbel);clear hE hbel
     go_wp2
     refine yW (by kernel_rfl) (cJ (by kernel_rfl)) (λ_ _ d _ _ h=>by cases d <;> exact h) ?_;refine gO g (by simpa [dB] using hzl) _ rfl rfl rfl (λ_ h=>h.blk h3) ?_; simp only [aG,aA,aB,aC];refine kE rfl zC (λw1=>HH w1) rfl rfl ?_; simp only [aG,aA,aB,aC];refine zU rfl 27 _ rfl w.heap.size 0 rfl (By b) _ (λ_ h=>(h.blk h0).range) Tryz.underlying27 rfl (fL (By b).toArray hzb) ?_; simp only [aG,aA,aB,aC];refine UZ (By ez).toArray (By b).toArray rfl rfl rfl rfl (by kernel_rfl) hq ?_; simp only [aG,aA,aB,aC];refine cQ ?_
     intro w1 hw1
     have j1:=hw1.blk h1;have j3:=hw1.blk h3;have hsz:=hw1.size;have HU:=aL hw1;clear h0 h1 h3 HH hq hw1
     cases ok with
     | true =>
      go_wp2_with (first
       | (refine wpList_load_row rfl 116 _ rfl g rfl 116 (Us l).toArray (0,0) _ j3 Tryz.underlying116 rfl (bT _ hzl) ?_)
       | (refine wpList_store_row rfl 116 _ _ rfl (w.heap.size + 1) rfl (Us l).toArray rfl 116 _ j1 (bT _ hzl) (by rw [hzl]; rfl) (cO _) ?_))
      obtain ⟨hE,hbel⟩:=HK2.out;refine bodyPost_ret (results_cell_tmp rfl _ _ (w.heap.size + 1) 116 (Us l).toArray (0,0) _ (.bool true) rfl rfl (j1.row _) Tryz.underlying116 rfl (bT _ hzl)) rfl ⟨⟨l,hE,rfl⟩,?_⟩;exact below_setRow (bA hbel HU.out) (by omega) _
     | false =>
      go_wp2_with (first
       | (refine vQ [] z5 rfl rfl rfl jR ?_)
       | (refine wpList_store_row rfl 116 _ _ rfl (w.heap.size + 1) rfl z5 rfl 116 _ j1 (bT _ rfl) rfl (cO _) ?_))
      obtain ⟨hE,hbel⟩:=HK2.out;refine bodyPost_ret (results_cell_tmp rfl _ _ (w.heap.size + 1) 116 z5 (0,0) _ (.bool false) rfl rfl (j1.row _) Tryz.underlying116 rfl (bT _ rfl)) rfl ⟨rfl,?_⟩;exact below_setRow (bA hbel HU.out) (by omega) _
theorem Cg (w : World) : Calls Tryz.prog 93 #[.int .u64 1] w λe w'=>∃ r,EB r 1 /\ e = .returned (.agg (Us r).toArray) /\ Below w.heap.size w w':=by
 have h:=Sk 1 (by omega) w;rw [oT] at h;exact h
def TO : List UInt8:=[163,120,89,19,202,77,235,117,171,216,65,65,77,10,112,0,152,232,121,119,121,64,199,140,115,254,111,43,238,108,3,82]
def bxB : List UInt8:=[26,213,37,143,96,45,86,201,178,167,37,149,96,199,44,105,92,220,214,253,49,226,164,192,254,83,110,205,211,54,105,33]
def byB : List UInt8:=[88,102,102,102,102,102,102,102,102,102,102,102,102,102,102,102,102,102,102,102,102,102,102,102,102,102,102,102,102,102,102,102]
theorem wE {b : List UInt8} {x : F} (hb : b.length = 32) (hg : qT b = true) (hx : fof (le b % 57896044618658097711785492504343953926634992332820282019728792003956564819968) = x) (w : World) :
  Calls Tryz.prog 84 #[.agg (By b).toArray] w λe w'=>∃ r,EB r x /\ e = .returned (.tuple #[.agg (Us r).toArray,.bool true]) /\ Below w.heap.size w w' :=
 (UJ hb w).mono λe w' ⟨h,hw⟩=>by
  rcases h with ⟨_,r,hr,he⟩ | ⟨h,_⟩
  ·exact ⟨r,hx ▸ hr,he,hw⟩
  ·rw [hg] at h
   cases h
theorem Qw : qT TO = true:=by decide +kernel
theorem TJ : qT bxB = true:=by decide +kernel
theorem TI : qT byB = true:=by decide +kernel
theorem VT : fof (le TO % 57896044618658097711785492504343953926634992332820282019728792003956564819968) = dd:=qU (by decide +kernel)
theorem XG : fof (le bxB % 57896044618658097711785492504343953926634992332820282019728792003956564819968) = fof bx:=qU (by decide +kernel)
theorem XF : fof (le byB % 57896044618658097711785492504343953926634992332820282019728792003956564819968) = fof bY:=qU (by decide +kernel)
theorem Ur {X Y : List Nat} {x y : F} (hX : EB X x) (hY : EB Y y) (hon : Ed.On dd ⟨x,y⟩) (w : World) :
  Calls Tryz.prog 85 #[.agg (Us X).toArray,.agg (Us Y).toArray] w λe w'=>∃ r,QB r ⟨x,y⟩ /\ e = .returned (.agg (Us r).toArray) /\ Below w.heap.size w w':=by
 refine fI (vs:=[.agg (Us X).toArray,.agg (Us Y).toArray]) 12 Tryz.func85 rfl (by rw [Tryz.ntmps85]; rfl) ?_;refine aO λK hK=>?_;refine eX ?_;refine gR ((Us X).toArray) rfl rfl rfl rfl rfl λW1 g1 hw1 hg1 b1=>?_;clear hg1;have hU : Up w _:=hw1;refine gR ((Us Y).toArray) rfl rfl rfl rfl rfl λW2 g2 hw2 hg2 b2=>?_;clear hg2;replace b1:=b1.later hw2;replace hU:=hU.step hw2;refine cY ((Us pz).toArray) rfl rfl rfl rfl (by kernel_rfl) λW3 g3 hw3 hg3 b3=>?_
 have q3 : w.heap.size <= g3:=by rw [hg3]; exact hU.size
 clear hg3;replace b1:=b1.later hw3;replace b2:=b2.later hw3;replace hU:=hU.step hw3;refine bI ?_;refine hK _ _ ?_;clear hK K;refine aO λK hK=>?_;refine c_t 7 (by decide) (by kernel_rfl) (cJ (by kernel_rfl)) (λ_ _ d _ _ h=>by cases d <;> exact h) ?_;refine dU g1 0 hX.len rfl rfl rfl rfl rfl (λ_ h1=>(h1.blk b1).range) ?_;refine dU g2 0 hY.len rfl rfl rfl rfl rfl (λ_ h1=>(h1.blk b2).range) ?_;refine fC #[.int .u64 1] (EB · 1) rfl rfl rfl Ao (λw1 _=>Cg w1) rfl rfl λr7 v7=>?_;refine dU g1 0 hX.len rfl rfl rfl rfl rfl (λ_ h1=>(h1.blk b1).range) ?_;refine dU g2 0 hY.len rfl rfl rfl rfl rfl (λ_ h1=>(h1.blk b2).range) ?_;refine fC #[.agg (Us X).toArray,.agg (Us Y).toArray] (EB · (x * y)) rfl rfl rfl bO (λw1 h1=>dF hX hY w1) rfl rfl λr10 v10=>?_;refine g7 [(0,.agg (Us X).toArray),(1,.agg (Us Y).toArray),(2,.agg (Us r7).toArray),(3,.agg (Us r10).toArray)] (Us (pc X Y r7 r10)).toArray rfl rfl rfl rfl rfl (FQ hX.len hY.len v7.len v10.len) ?_;refine iW g3 _ ((Us (pc X Y r7 r10)).toArray) rfl rfl rfl rfl rfl b3 (dZ (lC hX.len hY.len v7.len v10.len)) ((aV fE).trans (aV (lC hX.len hY.len v7.len v10.len)).symm) (bU _) λw4 hw4 c4=>?_;replace b3:=c4;replace hU:=cT (hU.step hw4) q3 ((Us (pc X Y r7 r10)).toArray);clear hw4 c4;generalize w4.setRow g3 ((Us (pc X Y r7 r10)).toArray) = W4 at *;refine bI ?_;refine hK _ _ ?_;clear hK K;refine gX (eH g3 _ rfl rfl b3 Tryz.underlying118 rfl (dZ (lC hX.len hY.len v7.len v10.len)) ⟨_,⟨⟨X,Y,r7,r10,x,y,1,x * y,rfl,hX,hY,v7,v10,Ed.Rep.one iF x y,by grind only⟩,hon⟩,rfl,hU⟩)
theorem Ij  (w : World) :
  Calls Tryz.prog 96 #[] w λe w'=>∃ r,EB r dd /\ e = .returned (.agg (Us r).toArray) /\ Below w.heap.size w w':=by
 refine fI (vs:=[]) 9 Tryz.func96 rfl (by rw [Tryz.ntmps96]; rfl) ?_;refine aO λK hK=>?_;refine eX ?_;refine cY z5 rfl rfl rfl rfl (by kernel_rfl) λW1 g1 hw1 hg1 b1=>?_
 have q1 : w.heap.size <= g1:=by rw [hg1]; exact aH _
 clear hg1;have hU : Up w _:=hw1;refine bI ?_;refine hK _ _ ?_;clear hK K;refine aO λK hK=>?_;refine tN 5 [nvE 1] (by decide) ⟨⟨rfl,rfl,rfl,rfl,by kernel_rfl⟩,trivial⟩ ?_;refine g7 [(0,.int .u8 163),(1,.int .u8 120),(2,.int .u8 89),(3,.int .u8 19),(4,.int .u8 202),(5,.int .u8 77),(6,.int .u8 235),(7,.int .u8 117),(8,.int .u8 171),(9,.int .u8 216),(10,.int .u8 65),(11,.int .u8 65),(12,.int .u8 77),(13,.int .u8 10),(14,.int .u8 112),(15,.int .u8 0),(16,.int .u8 152),(17,.int .u8 232),(18,.int .u8 121),(19,.int .u8 119),(20,.int .u8 121),(21,.int .u8 64),(22,.int .u8 199),(23,.int .u8 140),(24,.int .u8 115),(25,.int .u8 254),(26,.int .u8 111),(27,.int .u8 43),(28,.int .u8 238),(29,.int .u8 108),(30,.int .u8 3),(31,.int .u8 82)] (By TO).toArray rfl rfl rfl rfl rfl (by kernel_rfl) ?_;refine Il #[.agg (By TO).toArray] dd rfl rfl rfl sG (λw1 _=>wE rfl Qw VT w1) rfl rfl λr5 v5=>?_;refine aM (.tuple #[.agg (Us r5).toArray,.bool true]) rfl rfl rfl rfl rfl ?_;refine dY (.agg (Us r5).toArray) rfl rfl rfl rfl rfl rfl ?_;refine dY (.bool true) rfl rfl rfl rfl rfl rfl ?_;refine o7 [.tmp 6] [(Us r5).toArray] ⟨rfl,trivial⟩ (by decide) ⟨⟨rfl,rfl,rfl⟩,rfl⟩ ⟨⟨rfl,(aV gE).trans (aV v5.len).symm,gG v5.len,bU _⟩,trivial⟩ λf2 W2 hg2 hd2 hw2 hb2=>?_;have b200 : Blk W2 (f2 0) 116 ((Us r5).toArray):=hb2.1;clear hb2;replace b1:=b1.later hw2;replace hU:=hU.step hw2;clear hg2 hd2 hw2;generalize hf200 : f2 0 = g200 at *;simp only [l8,hf200];clear hf200 f2;refine cV (.bool true) rfl rfl rfl rfl rfl ?_;refine bI ?_;refine eC (E':=[(0,.pointer (some ⟨g1,0,none⟩)),(1,.pointer (some ⟨g200,0,none⟩))]) ⟨rfl,rfl,trivial⟩ ?_;refine hK _ _ ?_;clear hK K;refine aO λK hK=>?_;refine lL 1 ?_;refine dU g200 0 v5.len rfl rfl rfl rfl rfl (λ_ h1=>(h1.blk b200).range) ?_;refine iW g1 _ ((Us r5).toArray) rfl rfl rfl rfl rfl b1 (gG v5.len) ((aV gE).trans (aV v5.len).symm) (bU _) λw3 hw3 c3=>?_;replace b1:=c3;replace hU:=cT (hU.step hw3) q1 ((Us r5).toArray);clear hw3 c3;generalize w3.setRow g1 ((Us r5).toArray) = W3 at *;refine bI ?_;refine hK _ _ ?_;clear hK K;refine gX (eH g1 _ rfl rfl b1 Tryz.underlying116 rfl (gG v5.len) ⟨_,v5,rfl,hU⟩)
theorem LX  (w : World) :
  Calls Tryz.prog 70 #[] w λe w'=>∃ r,QB r base /\ e = .returned (.agg (Us r).toArray) /\ Below w.heap.size w w':=by
 refine fI (vs:=[]) 18 Tryz.func70 rfl (by rw [Tryz.ntmps70]; rfl) ?_;refine aO λK hK=>?_;refine eX ?_;refine cY ((Us pz).toArray) rfl rfl rfl rfl (by kernel_rfl) λW1 g1 hw1 hg1 b1=>?_
 have q1 : w.heap.size <= g1:=by rw [hg1]; exact aH _
 clear hg1;have hU : Up w _:=hw1;refine bI ?_;refine hK _ _ ?_;clear hK K;refine aO λK hK=>?_;refine tN 5 [nvE 1] (by decide) ⟨⟨rfl,rfl,rfl,rfl,by kernel_rfl⟩,trivial⟩ ?_;refine g7 [(0,.int .u8 26),(1,.int .u8 213),(2,.int .u8 37),(3,.int .u8 143),(4,.int .u8 96),(5,.int .u8 45),(6,.int .u8 86),(7,.int .u8 201),(8,.int .u8 178),(9,.int .u8 167),(10,.int .u8 37),(11,.int .u8 149),(12,.int .u8 96),(13,.int .u8 199),(14,.int .u8 44),(15,.int .u8 105),(16,.int .u8 92),(17,.int .u8 220),(18,.int .u8 214),(19,.int .u8 253),(20,.int .u8 49),(21,.int .u8 226),(22,.int .u8 164),(23,.int .u8 192),(24,.int .u8 254),(25,.int .u8 83),(26,.int .u8 110),(27,.int .u8 205),(28,.int .u8 211),(29,.int .u8 54),(30,.int .u8 105),(31,.int .u8 33)] (By bxB).toArray rfl rfl rfl rfl rfl (by kernel_rfl) ?_;refine Il #[.agg (By bxB).toArray] (fof bx) rfl rfl rfl sG (λw1 _=>wE rfl TJ XG w1) rfl rfl λr7 v7=>?_;refine aM (.tuple #[.agg (Us r7).toArray,.bool true]) rfl rfl rfl rfl rfl ?_;refine dY (.agg (Us r7).toArray) rfl rfl rfl rfl rfl rfl ?_;refine dY (.bool true) rfl rfl rfl rfl rfl rfl ?_;refine o7 [.tmp 8] [(Us r7).toArray] ⟨rfl,trivial⟩ (by decide) ⟨⟨rfl,rfl,rfl⟩,rfl⟩ ⟨⟨rfl,(aV gE).trans (aV v7.len).symm,gG v7.len,bU _⟩,trivial⟩ λf2 W2 hg2 hd2 hw2 hb2=>?_;have b200 : Blk W2 (f2 0) 116 ((Us r7).toArray):=hb2.1;clear hb2;replace b1:=b1.later hw2;replace hU:=hU.step hw2;clear hg2 hd2 hw2;generalize hf200 : f2 0 = g200 at *;simp only [l8,hf200];clear hf200 f2;refine cV (.bool true) rfl rfl rfl rfl rfl ?_;refine bI ?_;refine eC (E':=[(0,.pointer (some ⟨g1,0,none⟩)),(1,.pointer (some ⟨g200,0,none⟩))]) ⟨rfl,rfl,trivial⟩ ?_;refine hK _ _ ?_;clear hK K;refine aO λK hK=>?_;refine tN 5 [nvE 3] (by decide) ⟨⟨rfl,rfl,rfl,rfl,by kernel_rfl⟩,trivial⟩ ?_;refine g7 [(0,.int .u8 88),(1,.int .u8 102),(2,.int .u8 102),(3,.int .u8 102),(4,.int .u8 102),(5,.int .u8 102),(6,.int .u8 102),(7,.int .u8 102),(8,.int .u8 102),(9,.int .u8 102),(10,.int .u8 102),(11,.int .u8 102),(12,.int .u8 102),(13,.int .u8 102),(14,.int .u8 102),(15,.int .u8 102),(16,.int .u8 102),(17,.int .u8 102),(18,.int .u8 102),(19,.int .u8 102),(20,.int .u8 102),(21,.int .u8 102),(22,.int .u8 102),(23,.int .u8 102),(24,.int .u8 102),(25,.int .u8 102),(26,.int .u8 102),(27,.int .u8 102),(28,.int .u8 102),(29,.int .u8 102),(30,.int .u8 102),(31,.int .u8 102)] (By byB).toArray rfl rfl rfl rfl rfl (by kernel_rfl) ?_;refine Il #[.agg (By byB).toArray] (fof bY) rfl rfl rfl sG (λw1 _=>wE rfl TI XF w1) rfl rfl λr12 v12=>?_;refine aM (.tuple #[.agg (Us r12).toArray,.bool true]) rfl rfl rfl rfl rfl ?_;refine dY (.agg (Us r12).toArray) rfl rfl rfl rfl rfl rfl ?_;refine dY (.bool true) rfl rfl rfl rfl rfl rfl ?_
 refine o7 [.tmp 13] [(Us r12).toArray] ⟨rfl,trivial⟩ (by decide) ⟨⟨rfl,rfl,rfl⟩,rfl⟩ ⟨⟨rfl,(aV gE).trans (aV v12.len).symm,gG v12.len,bU _⟩,trivial⟩ λf3 W3 hg3 hd3 hw3 hb3=>?_;have b300 : Blk W3 (f3 0) 116 ((Us r12).toArray):=hb3.1;clear hb3;replace b1:=b1.later hw3;replace b200:=b200.later hw3;replace hU:=hU.step hw3;clear hg3 hd3 hw3;generalize hf300 : f3 0 = g300 at *;simp only [l8,hf300];clear hf300 f3;refine cV (.bool true) rfl rfl rfl rfl rfl ?_;refine bI ?_;refine eC (E':=[(0,.pointer (some ⟨g1,0,none⟩)),(1,.pointer (some ⟨g200,0,none⟩)),(3,.pointer (some ⟨g300,0,none⟩))]) ⟨rfl,rfl,rfl,trivial⟩ ?_;refine hK _ _ ?_;clear hK K;refine aO λK hK=>?_;refine lL 3 ?_;refine dU g200 0 v7.len rfl rfl rfl rfl rfl (λ_ h1=>(h1.blk b200).range) ?_;refine dU g300 0 v12.len rfl rfl rfl rfl rfl (λ_ h1=>(h1.blk b300).range) ?_;refine fC #[.agg (Us r7).toArray,.agg (Us r12).toArray] (QB · ⟨fof bx,fof bY⟩) rfl rfl rfl Fm (λw1 h1=>Ur v7 v12 mO w1) rfl rfl λr17 v17=>?_;refine iW g1 _ ((Us r17).toArray) rfl rfl rfl rfl rfl b1 (dZ v17.len) ((aV fE).trans (aV v17.len).symm) (bU _) λw4 hw4 c4=>?_;replace b1:=c4;replace hU:=cT (hU.step hw4) q1 ((Us r17).toArray);clear hw4 c4;generalize w4.setRow g1 ((Us r17).toArray) = W4 at *;refine bI ?_;refine hK _ _ ?_;clear hK K;refine gX (eH g1 _ rfl rfl b1 Tryz.underlying118 rfl (dZ v17.len) ⟨_,v17,rfl,hU⟩)
theorem Hr {n : Nat} [NeZero n] (t z : Fin n) : (0 - t) * z = 0 - t * z:=by grind only
theorem PV {n : Nat} [NeZero n] (x y : Fin n) : (0 - x) * y = 0 - x * y:=Hr x y
theorem _root_.Nums.Ed.Rep.Yz {n : Nat} [NeZero n] {X Y Z : Fin n} {P : Ed.Pt n} (r : Ed.Rep X Y Z P) : Ed.Rep (0 - X) Y Z (Ed.neg P):=by
 have h:=r.neg
 have e : -X = 0 - X:=by grind only
 rwa [e] at h
theorem yZ {l : List Nat} {A : Ed.Pt p} (hP : PB l A) (w : World) :
  Calls Tryz.prog 88 #[.agg (Us l).toArray] w λe w'=>∃ r,QB r A /\ e = .returned (.agg (Us r).toArray) /\ Below w.heap.size w w':=by
 refine fI (vs:=[.agg (Us l).toArray]) 10 Tryz.func88 rfl (by rw [Tryz.ntmps88]; rfl) ?_;have hl:=hP.len;refine aO λK hK=>?_;refine eX ?_;refine gR ((Us l).toArray) rfl rfl rfl rfl rfl λW1 g1 hw1 hg1 b1=>?_;clear hg1;have hU : Up w _:=hw1;refine cY ((Us pz).toArray) rfl rfl rfl rfl (by kernel_rfl) λW2 g2 hw2 hg2 b2=>?_
 have q2 : w.heap.size <= g2:=by rw [hg2]; exact hU.size
 have n1_2 : g1 ≠ g2:=by have:=b1.lt; omega
 clear hg2;replace b1:=b1.later hw2;replace hU:=hU.step hw2;refine bI ?_;refine hK _ _ ?_;clear hK K;refine aO λK0 hK0=>?_;refine aO λK hK=>?_
 rcases hP with ⟨rfl,rfl⟩ | hQ
 ·refine dG ?_
  refine rT g1 0 hl rfl rfl rfl rfl rfl (λ_ h1=>(h1.blk b1).range) ?_;refine g7 [] (Us pz).toArray rfl rfl rfl rfl rfl tO ?_;refine Nq (Us pz).toArray (Us pz).toArray rfl rfl rfl rfl rfl rfl (by kernel_rfl) UW ?_;refine bN λw9 hw9=>hK _ _ ?_;clear hK K;replace b1:=b1.later hw9;replace b2:=b2.later hw9;replace hU:=hU.step hw9;refine cI true rfl ?_;rw [if_pos rfl];refine aO λK2 hK2=>?_;refine lL 3 ?_;refine g7 [] (Us zl).toArray rfl rfl rfl rfl rfl jR ?_;refine fC #[.int .u64 1] (EB · 1) rfl rfl rfl Ao (λw1 _=>Cg w1) rfl rfl λr7 v7=>?_;refine fC #[.agg (Us zl).toArray,.agg (Us r7).toArray] (QB · ⟨0,1⟩) rfl rfl rfl Fm (λw1 h1=>Ur mR v7 Ed.tD w1) rfl rfl λr8 v8=>?_;refine iW g2 _ ((Us r8).toArray) rfl rfl rfl rfl rfl b2 (dZ v8.len) ((aV fE).trans (aV v8.len).symm) (bU _) λw3 hw3 c3=>?_;replace b1:=(b1.later hw3).aT n1_2 ((Us r8).toArray);replace b2:=c3;replace hU:=cT (hU.step hw3) q2 ((Us r8).toArray);clear hw3 c3;generalize w3.setRow g2 ((Us r8).toArray) = W3 at *;refine bI ?_;refine hK2 _ _ ?_;clear hK2 K2;refine gX (lT (eH g2 _ rfl rfl b2 Tryz.underlying118 rfl (dZ v8.len) ⟨_,v8,rfl,hU⟩))
 ·refine dG ?_
  refine rT g1 0 hl rfl rfl rfl rfl rfl (λ_ h1=>(h1.blk b1).range) ?_;refine g7 [] (Us pz).toArray rfl rfl rfl rfl rfl tO ?_;refine Nq (Us l).toArray (Us pz).toArray rfl rfl rfl rfl rfl rfl (by kernel_rfl) (UK hQ) ?_;refine bN λw9 hw9=>hK _ _ ?_;clear hK K;replace b1:=b1.later hw9;replace b2:=b2.later hw9;replace hU:=hU.step hw9;refine cI false rfl ?_;rw [if_neg (by decide)];refine fG ?_;refine hK0 _ _ ?_;clear hK0 K0;refine aO λK hK=>?_;refine lL 1 ?_;refine rT g1 0 hl rfl rfl rfl rfl rfl (λ_ h1=>(h1.blk b1).range) ?_;refine iW g2 _ ((Us l).toArray) rfl rfl rfl rfl rfl b2 (dZ hl) ((aV fE).trans (aV hl).symm) (bU _) λw3 hw3 c3=>?_;replace b2:=c3;replace hU:=cT (hU.step hw3) q2 ((Us l).toArray);clear hw3 c3;generalize w3.setRow g2 ((Us l).toArray) = W3 at *;refine bI ?_;refine hK _ _ ?_;clear hK K;refine gX (eH g2 _ rfl rfl b2 Tryz.underlying118 rfl (dZ hl) ⟨_,hQ,rfl,hU⟩)
theorem IM {l : List Nat} {A : Ed.Pt p} (hP : PB l A) (w : World) (hT : Tw w) :
  Calls Tryz.prog 106 #[.agg (Us l).toArray] w λe w'=>∃ r,AB r A /\ e = .returned (.agg (Us r).toArray) /\ Below w.heap.size w w':=by
 refine fI (vs:=[.agg (Us l).toArray]) 28 Tryz.func106 rfl (by rw [Tryz.ntmps106]; rfl) ?_;have hw0:=hT.lt;refine aO λK hK=>?_;refine eX ?_;refine gR ((Us l).toArray) rfl rfl rfl rfl rfl λW1 g1 hw1 hg1 b1=>?_
 have q1 : w.heap.size <= g1:=by rw [hg1]; exact aH _
 clear hg1;replace hT:=hT.below hw1;have hU : Up w _:=hw1;refine cY ((Us pz).toArray) rfl rfl rfl rfl (by kernel_rfl) λW2 g2 hw2 hg2 b2=>?_
 have q2 : w.heap.size <= g2:=by rw [hg2]; exact hU.size
 have n1_2 : g1 ≠ g2:=by have:=b1.lt; omega
 clear hg2;replace b1:=b1.later hw2;replace hT:=hT.below hw2;replace hU:=hU.step hw2;refine bI ?_;refine hK _ _ ?_;clear hK K;refine aO λK hK=>?_;refine lL 2 ?_;refine rT g1 0 hP.len rfl rfl rfl rfl rfl (λ_ h1=>(h1.blk b1).range) ?_;refine fC #[.agg (Us l).toArray] (QB · A) rfl rfl rfl tC (λw1 h1=>yZ hP w1) rfl rfl λr4 v4=>?_;refine iW g1 _ ((Us r4).toArray) rfl rfl rfl rfl rfl b1 (dZ v4.len) ((aV hP.len).trans (aV v4.len).symm) (bU _) λw3 hw3 c3=>?_;replace b2:=(b2.later hw3).aT (lZ n1_2) ((Us r4).toArray);replace b1:=c3;replace hT:=(hT.below hw3).row (g:=g1) (by have:=hw0; omega) ((Us r4).toArray);replace hU:=cT (hU.step hw3) q1 ((Us r4).toArray);clear hw3 c3;generalize w3.setRow g1 ((Us r4).toArray) = W3 at *;obtain ⟨⟨X1,Y1,Z1,T1,x1,y1,z1,t1,rfl,hX1,hY1,hZ1,hT1,hR1,ht1⟩,hon1⟩:=v4;refine bI ?_;refine hK _ _ ?_;clear hK K;refine aO λK hK=>?_;refine c_t 23 (by decide) (by kernel_rfl) (cJ (by kernel_rfl)) (λ_ _ d _ _ h=>by cases d <;> exact h) ?_;refine gI g1 0 5 rfl rfl rfl rfl rfl (λw1=>DH _ w1) ?_;refine dU g1 5 hY1.len rfl rfl rfl rfl rfl (λ_ h1=>(h1.blk b1).cy hX1.len) ?_;refine gI g1 0 0 rfl rfl rfl rfl rfl (λw1=>FO _ w1) ?_;refine dU g1 0 hX1.len rfl rfl rfl rfl rfl (λ_ h1=>(h1.blk b1).cx) ?_;refine fC #[.agg (Us Y1).toArray,.agg (Us X1).toArray] (EB · (y1 + x1)) rfl rfl rfl lA (λw1 h1=>oU hY1 hX1 w1) rfl rfl λr9 v9=>?_;refine gI g1 0 5 rfl rfl rfl rfl rfl (λw1=>DH _ w1) ?_;refine dU g1 5 hY1.len rfl rfl rfl rfl rfl (λ_ h1=>(h1.blk b1).cy hX1.len) ?_;refine gI g1 0 0 rfl rfl rfl rfl rfl (λw1=>FO _ w1) ?_;refine dU g1 0 hX1.len rfl rfl rfl rfl rfl (λ_ h1=>(h1.blk b1).cx) ?_;refine fC #[.agg (Us Y1).toArray,.agg (Us X1).toArray] (EB · (y1 - x1)) rfl rfl rfl jF (λw1 h1=>mQ hY1 hX1 w1 (hT.below h1)) rfl rfl λr14 v14=>?_;refine gI g1 0 10 rfl rfl rfl rfl rfl (λw1=>Iw _ w1) ?_;refine dU g1 10 hZ1.len rfl rfl rfl rfl rfl (λ_ h1=>(h1.blk b1).cz hX1.len hY1.len) ?_;refine gI g1 0 10 rfl rfl rfl rfl rfl (λw1=>Iw _ w1) ?_;refine dU g1 10 hZ1.len rfl rfl rfl rfl rfl (λ_ h1=>(h1.blk b1).cz hX1.len hY1.len) ?_;refine fC #[.agg (Us Z1).toArray,.agg (Us Z1).toArray] (EB · (z1 + z1)) rfl rfl rfl lA (λw1 h1=>oU hZ1 hZ1 w1) rfl rfl λr19 v19=>?_;refine gI g1 0 15 rfl rfl rfl rfl rfl (λw1=>Ra _ w1) ?_;refine dU g1 15 hT1.len rfl rfl rfl rfl rfl (λ_ h1=>(h1.blk b1).ct hX1.len hY1.len hZ1.len) ?_;refine gI g1 0 15 rfl rfl rfl rfl rfl (λw1=>Ra _ w1) ?_;refine dU g1 15 hT1.len rfl rfl rfl rfl rfl (λ_ h1=>(h1.blk b1).ct hX1.len hY1.len hZ1.len) ?_;refine fC #[.agg (Us T1).toArray,.agg (Us T1).toArray] (EB · (t1 + t1)) rfl rfl rfl lA (λw1 h1=>oU hT1 hT1 w1) rfl rfl λr24 v24=>?_;refine fC #[] (EB · dd) rfl rfl rfl CB (λw1 h1=>Ij w1) rfl rfl λr25 v25=>?_
 refine fC #[.agg (Us r24).toArray,.agg (Us r25).toArray] (EB · ((t1 + t1) * dd)) rfl rfl rfl bO (λw1 h1=>dF v24 v25 w1) rfl rfl λr26 v26=>?_;refine g7 [(0,.agg (Us r9).toArray),(1,.agg (Us r14).toArray),(2,.agg (Us r19).toArray),(3,.agg (Us r26).toArray)] (Us (pc r9 r14 r19 r26)).toArray rfl rfl rfl rfl rfl (Uh v9.len v14.len v19.len v26.len) ?_;refine iW g2 _ ((Us (pc r9 r14 r19 r26)).toArray) rfl rfl rfl rfl rfl b2 (Jb (lC v9.len v14.len v19.len v26.len)) ((aV fE).trans (aV (lC v9.len v14.len v19.len v26.len)).symm) (bU _) λw4 hw4 c4=>?_;replace b2:=c4;replace hT:=(hT.below hw4).row (g:=g2) (by have:=hw0; omega) ((Us (pc r9 r14 r19 r26)).toArray);replace hU:=cT (hU.step hw4) q2 ((Us (pc r9 r14 r19 r26)).toArray);clear hw4 c4;generalize w4.setRow g2 ((Us (pc r9 r14 r19 r26)).toArray) = W4 at *;refine bI ?_;refine hK _ _ ?_;clear hK K;refine gX (eH g2 _ rfl rfl b2 Tryz.underlying137 rfl (Jb (lC v9.len v14.len v19.len v26.len)) ⟨_,⟨⟨_,_,_,_,x1,y1,z1,t1,rfl,v9,v14,v19,v26,hR1,ht1⟩,hon1⟩,rfl,hU⟩)
theorem LN {l m : List Nat} {A B : Ed.Pt p} (hP : PB l A) (hM : AB m B) (w : World) (hT : Tw w) :
  Calls Tryz.prog 104 #[.agg (Us l).toArray,.agg (Us m).toArray] w λe w'=>∃ r,QB r (Ed.add dd A B) /\ e = .returned (.agg (Us r).toArray) /\ Below w.heap.size w w':=by
 refine fI (vs:=[.agg (Us l).toArray,.agg (Us m).toArray]) 66 Tryz.func104 rfl (by rw [Tryz.ntmps104]; rfl) ?_;have hw0:=hT.lt;have hml:=hM.len;obtain ⟨⟨U,V,Z2,T2,x2,y2,z2,t2,rfl,hU2,hV2,hZ2,hT2,hR2,ht2⟩,hon2⟩:=hM;refine aO λK hK=>?_;refine eX ?_;refine gR ((Us l).toArray) rfl rfl rfl rfl rfl λW1 g1 hw1 hg1 b1=>?_
 have q1 : w.heap.size <= g1:=by rw [hg1]; exact aH _
 clear hg1;replace hT:=hT.below hw1;have hU : Up w _:=hw1;refine gR ((Us (pc U V Z2 T2)).toArray) rfl rfl rfl rfl rfl λW2 g2 hw2 hg2 b2=>?_
 have n1_2 : g1 ≠ g2:=by have:=b1.lt; omega
 clear hg2;replace b1:=b1.later hw2;replace hT:=hT.below hw2;replace hU:=hU.step hw2;refine cY ((Us pz).toArray) rfl rfl rfl rfl (by kernel_rfl) λW3 g3 hw3 hg3 b3=>?_
 have q3 : w.heap.size <= g3:=by rw [hg3]; exact hU.size
 have n1_3 : g1 ≠ g3:=by have:=b1.lt; omega
 clear hg3;replace b1:=b1.later hw3;replace b2:=b2.later hw3;replace hT:=hT.below hw3;replace hU:=hU.step hw3;refine bI ?_;refine hK _ _ ?_;clear hK K;refine aO λK hK=>?_;refine lL 2 ?_;refine rT g1 0 hP.len rfl rfl rfl rfl rfl (λ_ h1=>(h1.blk b1).range) ?_;refine fC #[.agg (Us l).toArray] (QB · A) rfl rfl rfl tC (λw1 h1=>yZ hP w1) rfl rfl λr14 v14=>?_;refine iW g1 _ ((Us r14).toArray) rfl rfl rfl rfl rfl b1 (dZ v14.len) ((aV hP.len).trans (aV v14.len).symm) (bU _) λw4 hw4 c4=>?_;replace b2:=(b2.later hw4).aT (lZ n1_2) ((Us r14).toArray);replace b3:=(b3.later hw4).aT (lZ n1_3) ((Us r14).toArray);replace b1:=c4;replace hT:=(hT.below hw4).row (g:=g1) (by have:=hw0; omega) ((Us r14).toArray);replace hU:=cT (hU.step hw4) q1 ((Us r14).toArray);clear hw4 c4;generalize w4.setRow g1 ((Us r14).toArray) = W4 at *;obtain ⟨⟨X1,Y1,Z1,T1,x1,y1,z1,t1,rfl,hX1,hY1,hZ1,hT1,hR1,ht1⟩,hon1⟩:=v14;refine bI ?_;refine hK _ _ ?_;clear hK K;refine aO λK hK=>?_;refine Bl 16 [nvE 5,nvE 6] (by decide) (by decide) ⟨⟨rfl,rfl,rfl,rfl,by kernel_rfl⟩,⟨rfl,rfl,rfl,rfl,by kernel_rfl⟩,trivial⟩ (by kernel_rfl) (cJ (by kernel_rfl)) (by kernel_rfl) (λ_ _ d _ _ h=>by cases d <;> exact h) ?_;refine gI g1 0 5 rfl rfl rfl rfl rfl (λw1=>DH _ w1) ?_;refine dU g1 5 hY1.len rfl rfl rfl rfl rfl (λ_ h1=>(h1.blk b1).cy hX1.len) ?_;refine gI g1 0 0 rfl rfl rfl rfl rfl (λw1=>FO _ w1) ?_;refine dU g1 0 hX1.len rfl rfl rfl rfl rfl (λ_ h1=>(h1.blk b1).cx) ?_;refine fC #[.agg (Us Y1).toArray,.agg (Us X1).toArray] (EB · (y1 - x1)) rfl rfl rfl jF (λw1 h1=>mQ hY1 hX1 w1 (hT.below h1)) rfl rfl λr19 v19=>?_;refine gI g2 0 5 rfl rfl rfl rfl rfl (λw1=>YM _ w1) ?_;refine dU g2 5 hV2.len rfl rfl rfl rfl rfl (λ_ h1=>(h1.blk b2).cy hU2.len) ?_;refine fC #[.agg (Us r19).toArray,.agg (Us V).toArray] (EB · ((y1 - x1) * (y2 - x2))) rfl rfl rfl bO (λw1 h1=>dF v19 hV2 w1) rfl rfl λr22 v22=>?_;refine gI g1 0 5 rfl rfl rfl rfl rfl (λw1=>DH _ w1) ?_;refine dU g1 5 hY1.len rfl rfl rfl rfl rfl (λ_ h1=>(h1.blk b1).cy hX1.len) ?_;refine gI g1 0 0 rfl rfl rfl rfl rfl (λw1=>FO _ w1) ?_;refine dU g1 0 hX1.len rfl rfl rfl rfl rfl (λ_ h1=>(h1.blk b1).cx) ?_;refine fC #[.agg (Us Y1).toArray,.agg (Us X1).toArray] (EB · (y1 + x1)) rfl rfl rfl lA (λw1 h1=>oU hY1 hX1 w1) rfl rfl λr27 v27=>?_;refine gI g2 0 0 rfl rfl rfl rfl rfl (λw1=>YN _ w1) ?_;refine dU g2 0 hU2.len rfl rfl rfl rfl rfl (λ_ h1=>(h1.blk b2).cx) ?_;refine fC #[.agg (Us r27).toArray,.agg (Us U).toArray] (EB · ((y1 + x1) * (y2 + x2))) rfl rfl rfl bO (λw1 h1=>dF v27 hU2 w1) rfl rfl λr30 v30=>?_;refine o7 [.tmp 22,.tmp 30] [(Us r22).toArray,(Us r30).toArray] ⟨rfl,rfl,trivial⟩ (by decide) ⟨⟨rfl,rfl,rfl⟩,⟨rfl,rfl,rfl⟩,rfl⟩ ⟨⟨rfl,(aV gE).trans (aV v22.len).symm,gG v22.len,bU _⟩,⟨rfl,(aV gE).trans (aV v30.len).symm,gG v30.len,bU _⟩,trivial⟩ λf5 W5 hg5 hd5 hw5 hb5=>?_
 have b500 : Blk W5 (f5 0) 116 ((Us r22).toArray):=hb5.1;have b501 : Blk W5 (f5 1) 116 ((Us r30).toArray):=hb5.2.1;clear hb5;replace b1:=b1.later hw5;replace b2:=b2.later hw5;replace b3:=b3.later hw5;replace hT:=hT.below hw5;replace hU:=hU.step hw5;clear hg5 hd5 hw5;generalize hf500 : f5 0 = g500 at *;generalize hf501 : f5 1 = g501 at *;simp only [l8,F9,hf500,hf501];clear hf500 hf501 f5;refine bI ?_;refine eC (E':=[(2,.pointer (some ⟨g1,0,none⟩)),(3,.pointer (some ⟨g2,0,none⟩)),(4,.pointer (some ⟨g3,0,none⟩)),(5,.pointer (some ⟨g500,0,none⟩)),(6,.pointer (some ⟨g501,0,none⟩))]) ⟨rfl,rfl,rfl,rfl,rfl,trivial⟩ ?_;refine hK _ _ ?_;clear hK K;refine aO λK hK=>?_;refine Bl 10 [nvE 7,nvE 8] (by decide) (by decide) ⟨⟨rfl,rfl,rfl,rfl,by kernel_rfl⟩,⟨rfl,rfl,rfl,rfl,by kernel_rfl⟩,trivial⟩ (by kernel_rfl) (cJ (by kernel_rfl)) (by kernel_rfl) (λ_ _ d _ _ h=>by cases d <;> exact h) ?_;refine gI g1 0 10 rfl rfl rfl rfl rfl (λw1=>Iw _ w1) ?_;refine dU g1 10 hZ1.len rfl rfl rfl rfl rfl (λ_ h1=>(h1.blk b1).cz hX1.len hY1.len) ?_;refine gI g2 0 10 rfl rfl rfl rfl rfl (λw1=>YL _ w1) ?_;refine dU g2 10 hZ2.len rfl rfl rfl rfl rfl (λ_ h1=>(h1.blk b2).cz hU2.len hV2.len) ?_;refine fC #[.agg (Us Z1).toArray,.agg (Us Z2).toArray] (EB · (z1 * (z2 + z2))) rfl rfl rfl bO (λw1 h1=>dF hZ1 hZ2 w1) rfl rfl λr35 v35=>?_;refine gI g1 0 15 rfl rfl rfl rfl rfl (λw1=>Ra _ w1) ?_;refine dU g1 15 hT1.len rfl rfl rfl rfl rfl (λ_ h1=>(h1.blk b1).ct hX1.len hY1.len hZ1.len) ?_;refine gI g2 0 15 rfl rfl rfl rfl rfl (λw1=>YK _ w1) ?_;refine dU g2 15 hT2.len rfl rfl rfl rfl rfl (λ_ h1=>(h1.blk b2).ct hU2.len hV2.len hZ2.len) ?_;refine fC #[.agg (Us T1).toArray,.agg (Us T2).toArray] (EB · (t1 * ((t2 + t2) * dd))) rfl rfl rfl bO (λw1 h1=>dF hT1 hT2 w1) rfl rfl λr40 v40=>?_;refine o7 [.tmp 35,.tmp 40] [(Us r35).toArray,(Us r40).toArray] ⟨rfl,rfl,trivial⟩ (by decide) ⟨⟨rfl,rfl,rfl⟩,⟨rfl,rfl,rfl⟩,rfl⟩ ⟨⟨rfl,(aV gE).trans (aV v35.len).symm,gG v35.len,bU _⟩,⟨rfl,(aV gE).trans (aV v40.len).symm,gG v40.len,bU _⟩,trivial⟩ λf6 W6 hg6 hd6 hw6 hb6=>?_;have b600 : Blk W6 (f6 0) 116 ((Us r35).toArray):=hb6.1;have b601 : Blk W6 (f6 1) 116 ((Us r40).toArray):=hb6.2.1;clear hb6;replace b3:=b3.later hw6;replace b500:=b500.later hw6;replace b501:=b501.later hw6;replace hT:=hT.below hw6;replace hU:=hU.step hw6;clear hg6 hd6 hw6;generalize hf600 : f6 0 = g600 at *;generalize hf601 : f6 1 = g601 at *;simp only [l8,F9,hf600,hf601];clear hf600 hf601 f6;refine bI ?_;refine eC (E':=[(4,.pointer (some ⟨g3,0,none⟩)),(5,.pointer (some ⟨g500,0,none⟩)),(6,.pointer (some ⟨g501,0,none⟩)),(7,.pointer (some ⟨g600,0,none⟩)),(8,.pointer (some ⟨g601,0,none⟩))]) ⟨rfl,rfl,rfl,rfl,rfl,trivial⟩ ?_
 refine hK _ _ ?_;clear hK K;refine aO λK hK=>?_;refine Bl 12 [nvE 9,nvE 10,nvE 11,nvE 12] (by decide) (by decide) ⟨⟨rfl,rfl,rfl,rfl,by kernel_rfl⟩,⟨rfl,rfl,rfl,rfl,by kernel_rfl⟩,⟨rfl,rfl,rfl,rfl,by kernel_rfl⟩,⟨rfl,rfl,rfl,rfl,by kernel_rfl⟩,trivial⟩ (by kernel_rfl) (cJ (by kernel_rfl)) (by kernel_rfl) (λ_ _ d _ _ h=>by cases d <;> exact h) ?_;refine dU g501 0 v30.len rfl rfl rfl rfl rfl (λ_ h1=>(h1.blk b501).range) ?_;refine dU g500 0 v22.len rfl rfl rfl rfl rfl (λ_ h1=>(h1.blk b500).range) ?_;refine fC #[.agg (Us r30).toArray,.agg (Us r22).toArray] (EB · (((y1 + x1) * (y2 + x2)) - ((y1 - x1) * (y2 - x2)))) rfl rfl rfl jF (λw1 h1=>mQ v30 v22 w1 (hT.below h1)) rfl rfl λr43 v43=>?_;refine dU g600 0 v35.len rfl rfl rfl rfl rfl (λ_ h1=>(h1.blk b600).range) ?_;refine dU g601 0 v40.len rfl rfl rfl rfl rfl (λ_ h1=>(h1.blk b601).range) ?_;refine fC #[.agg (Us r35).toArray,.agg (Us r40).toArray] (EB · ((z1 * (z2 + z2)) - (t1 * ((t2 + t2) * dd)))) rfl rfl rfl jF (λw1 h1=>mQ v35 v40 w1 (hT.below h1)) rfl rfl λr46 v46=>?_;refine dU g600 0 v35.len rfl rfl rfl rfl rfl (λ_ h1=>(h1.blk b600).range) ?_;refine dU g601 0 v40.len rfl rfl rfl rfl rfl (λ_ h1=>(h1.blk b601).range) ?_;refine fC #[.agg (Us r35).toArray,.agg (Us r40).toArray] (EB · ((z1 * (z2 + z2)) + (t1 * ((t2 + t2) * dd)))) rfl rfl rfl lA (λw1 h1=>oU v35 v40 w1) rfl rfl λr49 v49=>?_;refine dU g501 0 v30.len rfl rfl rfl rfl rfl (λ_ h1=>(h1.blk b501).range) ?_;refine dU g500 0 v22.len rfl rfl rfl rfl rfl (λ_ h1=>(h1.blk b500).range) ?_;refine fC #[.agg (Us r30).toArray,.agg (Us r22).toArray] (EB · (((y1 + x1) * (y2 + x2)) + ((y1 - x1) * (y2 - x2)))) rfl rfl rfl lA (λw1 h1=>oU v30 v22 w1) rfl rfl λr52 v52=>?_;refine o7 [.tmp 43,.tmp 46,.tmp 49,.tmp 52] [(Us r43).toArray,(Us r46).toArray,(Us r49).toArray,(Us r52).toArray] ⟨rfl,rfl,rfl,rfl,trivial⟩ (by decide) ⟨⟨rfl,rfl,rfl⟩,⟨rfl,rfl,rfl⟩,⟨rfl,rfl,rfl⟩,⟨rfl,rfl,rfl⟩,rfl⟩ ⟨⟨rfl,(aV gE).trans (aV v43.len).symm,gG v43.len,bU _⟩,⟨rfl,(aV gE).trans (aV v46.len).symm,gG v46.len,bU _⟩,⟨rfl,(aV gE).trans (aV v49.len).symm,gG v49.len,bU _⟩,⟨rfl,(aV gE).trans (aV v52.len).symm,gG v52.len,bU _⟩,trivial⟩ λf7 W7 hg7 hd7 hw7 hb7=>?_;have b700 : Blk W7 (f7 0) 116 ((Us r43).toArray):=hb7.1;have b701 : Blk W7 (f7 1) 116 ((Us r46).toArray):=hb7.2.1;have b702 : Blk W7 (f7 2) 116 ((Us r49).toArray):=hb7.2.2.1;have b703 : Blk W7 (f7 3) 116 ((Us r52).toArray):=hb7.2.2.2.1;clear hb7;replace b3:=b3.later hw7;replace hT:=hT.below hw7;replace hU:=hU.step hw7;clear hg7 hd7 hw7;generalize hf700 : f7 0 = g700 at *;generalize hf701 : f7 1 = g701 at *;generalize hf702 : f7 2 = g702 at *
 generalize hf703 : f7 3 = g703 at *;simp only [l8,F9,hf700,hf701,hf702,hf703];clear hf700 hf701 hf702 hf703 f7;refine bI ?_;refine eC (E':=[(4,.pointer (some ⟨g3,0,none⟩)),(9,.pointer (some ⟨g700,0,none⟩)),(10,.pointer (some ⟨g701,0,none⟩)),(11,.pointer (some ⟨g702,0,none⟩)),(12,.pointer (some ⟨g703,0,none⟩))]) ⟨rfl,rfl,rfl,rfl,rfl,trivial⟩ ?_;refine hK _ _ ?_;clear hK K;refine aO λK hK=>?_;refine c_t 13 (by decide) (by kernel_rfl) (cJ (by kernel_rfl)) (λ_ _ d _ _ h=>by cases d <;> exact h) ?_;refine dU g700 0 v43.len rfl rfl rfl rfl rfl (λ_ h1=>(h1.blk b700).range) ?_;refine dU g701 0 v46.len rfl rfl rfl rfl rfl (λ_ h1=>(h1.blk b701).range) ?_;refine fC #[.agg (Us r43).toArray,.agg (Us r46).toArray] (EB · ((((y1 + x1) * (y2 + x2)) - ((y1 - x1) * (y2 - x2))) * ((z1 * (z2 + z2)) - (t1 * ((t2 + t2) * dd))))) rfl rfl rfl bO (λw1 h1=>dF v43 v46 w1) rfl rfl λr55 v55=>?_;refine dU g702 0 v49.len rfl rfl rfl rfl rfl (λ_ h1=>(h1.blk b702).range) ?_;refine dU g703 0 v52.len rfl rfl rfl rfl rfl (λ_ h1=>(h1.blk b703).range) ?_;refine fC #[.agg (Us r49).toArray,.agg (Us r52).toArray] (EB · (((z1 * (z2 + z2)) + (t1 * ((t2 + t2) * dd))) * (((y1 + x1) * (y2 + x2)) + ((y1 - x1) * (y2 - x2))))) rfl rfl rfl bO (λw1 h1=>dF v49 v52 w1) rfl rfl λr58 v58=>?_;refine dU g701 0 v46.len rfl rfl rfl rfl rfl (λ_ h1=>(h1.blk b701).range) ?_;refine dU g702 0 v49.len rfl rfl rfl rfl rfl (λ_ h1=>(h1.blk b702).range) ?_;refine fC #[.agg (Us r46).toArray,.agg (Us r49).toArray] (EB · (((z1 * (z2 + z2)) - (t1 * ((t2 + t2) * dd))) * ((z1 * (z2 + z2)) + (t1 * ((t2 + t2) * dd))))) rfl rfl rfl bO (λw1 h1=>dF v46 v49 w1) rfl rfl λr61 v61=>?_;refine dU g700 0 v43.len rfl rfl rfl rfl rfl (λ_ h1=>(h1.blk b700).range) ?_;refine dU g703 0 v52.len rfl rfl rfl rfl rfl (λ_ h1=>(h1.blk b703).range) ?_;refine fC #[.agg (Us r43).toArray,.agg (Us r52).toArray] (EB · ((((y1 + x1) * (y2 + x2)) - ((y1 - x1) * (y2 - x2))) * (((y1 + x1) * (y2 + x2)) + ((y1 - x1) * (y2 - x2))))) rfl rfl rfl bO (λw1 h1=>dF v43 v52 w1) rfl rfl λr64 v64=>?_;refine g7 [(0,.agg (Us r55).toArray),(1,.agg (Us r58).toArray),(2,.agg (Us r61).toArray),(3,.agg (Us r64).toArray)] (Us (pc r55 r58 r61 r64)).toArray rfl rfl rfl rfl rfl (FQ v55.len v58.len v61.len v64.len) ?_;refine iW g3 _ ((Us (pc r55 r58 r61 r64)).toArray) rfl rfl rfl rfl rfl b3 (dZ (lC v55.len v58.len v61.len v64.len)) ((aV fE).trans (aV (lC v55.len v58.len v61.len v64.len)).symm) (bU _) λw8 hw8 c8=>?_;replace b3:=c8;replace hT:=(hT.below hw8).row (g:=g3) (by have:=hw0; omega) ((Us (pc r55 r58 r61 r64)).toArray);replace hU:=cT (hU.step hw8) q3 ((Us (pc r55 r58 r61 r64)).toArray);clear hw8 c8;generalize w8.setRow g3 ((Us (pc r55 r58 r61 r64)).toArray) = W8 at *;refine bI ?_
 refine hK _ _ ?_;clear hK K;have hE:=Ed.Rep.plus jC hon1 hon2 hR1 ht1 hR2 ht2 rfl rfl rfl rfl rfl rfl rfl rfl;refine gX (eH g3 _ rfl rfl b3 Tryz.underlying118 rfl (dZ (lC v55.len v58.len v61.len v64.len)) ⟨_,⟨⟨_,_,_,_,_,_,_,_,rfl,v55,v58,v61,v64,hE.1,hE.2⟩,Ed.qN jC hon1 hon2⟩,rfl,hU⟩)
theorem WA {l : List Nat} {A : Ed.Pt p} (hP : PB l A) (w : World) (hT : Tw w) :
  Calls Tryz.prog 77 #[.agg (Us l).toArray] w λe w'=>∃ r,QB r (Ed.neg A) /\ e = .returned (.agg (Us r).toArray) /\ Below w.heap.size w w':=by
 refine fI (vs:=[.agg (Us l).toArray]) 18 Tryz.func77 rfl (by rw [Tryz.ntmps77]; rfl) ?_;have hw0:=hT.lt;refine aO λK hK=>?_;refine eX ?_;refine gR ((Us l).toArray) rfl rfl rfl rfl rfl λW1 g1 hw1 hg1 b1=>?_
 have q1 : w.heap.size <= g1:=by rw [hg1]; exact aH _
 clear hg1;replace hT:=hT.below hw1;have hU : Up w _:=hw1;refine cY ((Us pz).toArray) rfl rfl rfl rfl (by kernel_rfl) λW2 g2 hw2 hg2 b2=>?_
 have q2 : w.heap.size <= g2:=by rw [hg2]; exact hU.size
 have n1_2 : g1 ≠ g2:=by have:=b1.lt; omega
 clear hg2;replace b1:=b1.later hw2;replace hT:=hT.below hw2;replace hU:=hU.step hw2;refine bI ?_;refine hK _ _ ?_;clear hK K;refine aO λK hK=>?_;refine lL 2 ?_;refine rT g1 0 hP.len rfl rfl rfl rfl rfl (λ_ h1=>(h1.blk b1).range) ?_;refine fC #[.agg (Us l).toArray] (QB · A) rfl rfl rfl tC (λw1 h1=>yZ hP w1) rfl rfl λr4 v4=>?_;refine iW g1 _ ((Us r4).toArray) rfl rfl rfl rfl rfl b1 (dZ v4.len) ((aV hP.len).trans (aV v4.len).symm) (bU _) λw3 hw3 c3=>?_;replace b2:=(b2.later hw3).aT (lZ n1_2) ((Us r4).toArray);replace b1:=c3;replace hT:=(hT.below hw3).row (g:=g1) (by have:=hw0; omega) ((Us r4).toArray);replace hU:=cT (hU.step hw3) q1 ((Us r4).toArray);clear hw3 c3;generalize w3.setRow g1 ((Us r4).toArray) = W3 at *;obtain ⟨⟨X1,Y1,Z1,T1,x1,y1,z1,t1,rfl,hX1,hY1,hZ1,hT1,hR1,ht1⟩,hon1⟩:=v4;refine bI ?_;refine hK _ _ ?_;clear hK K;refine aO λK hK=>?_;refine c_t 13 (by decide) (by kernel_rfl) (cJ (by kernel_rfl)) (λ_ _ d _ _ h=>by cases d <;> exact h) ?_;refine g7 [] (Us zl).toArray rfl rfl rfl rfl rfl jR ?_;refine gI g1 0 0 rfl rfl rfl rfl rfl (λw1=>FO _ w1) ?_;refine dU g1 0 hX1.len rfl rfl rfl rfl rfl (λ_ h1=>(h1.blk b1).cx) ?_;refine fC #[.agg (Us zl).toArray,.agg (Us X1).toArray] (EB · (0 - x1)) rfl rfl rfl jF (λw1 h1=>mQ mR hX1 w1 (hT.below h1)) rfl rfl λr8 v8=>?_;refine gI g1 0 5 rfl rfl rfl rfl rfl (λw1=>DH _ w1) ?_;refine dU g1 5 hY1.len rfl rfl rfl rfl rfl (λ_ h1=>(h1.blk b1).cy hX1.len) ?_;refine gI g1 0 10 rfl rfl rfl rfl rfl (λw1=>Iw _ w1) ?_;refine dU g1 10 hZ1.len rfl rfl rfl rfl rfl (λ_ h1=>(h1.blk b1).cz hX1.len hY1.len) ?_;refine g7 [] (Us zl).toArray rfl rfl rfl rfl rfl jR ?_;refine gI g1 0 15 rfl rfl rfl rfl rfl (λw1=>Ra _ w1) ?_;refine dU g1 15 hT1.len rfl rfl rfl rfl rfl (λ_ h1=>(h1.blk b1).ct hX1.len hY1.len hZ1.len) ?_;refine fC #[.agg (Us zl).toArray,.agg (Us T1).toArray] (EB · (0 - t1)) rfl rfl rfl jF (λw1 h1=>mQ mR hT1 w1 (hT.below h1)) rfl rfl λr16 v16=>?_;refine g7 [(0,.agg (Us r8).toArray),(1,.agg (Us Y1).toArray),(2,.agg (Us Z1).toArray),(3,.agg (Us r16).toArray)] (Us (pc r8 Y1 Z1 r16)).toArray rfl rfl rfl rfl rfl (FQ v8.len hY1.len hZ1.len v16.len) ?_;refine iW g2 _ ((Us (pc r8 Y1 Z1 r16)).toArray) rfl rfl rfl rfl rfl b2 (dZ (lC v8.len hY1.len hZ1.len v16.len)) ((aV fE).trans (aV (lC v8.len hY1.len hZ1.len v16.len)).symm) (bU _) λw4 hw4 c4=>?_;replace b2:=c4;replace hT:=(hT.below hw4).row (g:=g2) (by have:=hw0; omega) ((Us (pc r8 Y1 Z1 r16)).toArray);replace hU:=cT (hU.step hw4) q2 ((Us (pc r8 Y1 Z1 r16)).toArray);clear hw4 c4;generalize w4.setRow g2 ((Us (pc r8 Y1 Z1 r16)).toArray) = W4 at *;refine bI ?_;refine hK _ _ ?_;clear hK K;refine gX (eH g2 _ rfl rfl b2 Tryz.underlying118 rfl (dZ (lC v8.len hY1.len hZ1.len v16.len)) ⟨_,⟨⟨_,_,_,_,_,_,_,_,rfl,v8,hY1,hZ1,v16,Ed.Rep.Yz hR1,by rw [Hr,PV,ht1]⟩,Ed.uX hon1⟩,rfl,hU⟩)
end Go.Proofs.YtfkchihlchlfdaaGreatDoor
