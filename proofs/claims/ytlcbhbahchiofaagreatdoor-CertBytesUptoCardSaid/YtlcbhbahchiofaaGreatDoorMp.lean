/-
  SEVERAL TEXTS IN ONE: CtKey, CtS, CtN, CtO, RgOne, RgLit, Ct1, CtBw, Law, Opens, Law6, OpenH, OpenP, OpenC.
-/
import Derived.Test.YtlcbhbahchiofaaGreatDoorMo
import Derived.Test.YtlcbhbahchiofaaGreatDoorMm
import Derived.Test.YtlcbhbahchiofaaGreatDoorMj
import Derived.Test.YtlcbhbahchiofaaGreatDoorMn
import Derived.Test.YtlcbhbahchiofaaGreatDoorRows
import Derived.Test.YtlcbhbahchiofaaGreatDoorMa
import Derived.ProofKit
import Derived.OpenShut
import Derived.SizedLaws
import Derived.Deep.Slices
import Derived.Test.YtlcbhbahchiofaaGreatDoorCards
import Derived.Test.YtlcbhbahchiofaaGreatDoorTie
import Derived.LaidMore
import Derived.SevenTiedAt
import Derived.Stop.Joined
/-
  PLAIN NUMBERS: the keys of the seeds {i + 1, 2, 7}, reckoned: they differ.
-/
namespace Go.Proofs.YtlcbhbahchiofaaGreatDoor
open Nums

def seedL (b : UInt8) (i : Nat) : List UInt8:=UInt8.ofNat (i + 1) :: b :: 7 :: List.replicate 29 0
theorem seedL_len (b : UInt8) (i : Nat) : (seedL b i).length = 32:=by simp [seedL]
theorem seedL_one : seedL 2 0 = seedOne:=by decide
theorem key_s0 : sgKey (seedL 2 0) = [186,95,247,28,161,115,243,171,244,106,18,134,149,47,143,198,24,10,247,114,164,214,195,244,155,227,240,154,80,239,217,157]:=by rw [seedL_one]; exact key_c8
theorem ab_s1 : sgAB (seedL 2 1) = [16,154,69,64,150,60,19,152,228,254,217,5,241,222,167,197,46,33,213,218,193,88,62,254,216,94,48,66,222,42,209,82]:=by
 have e : sgD (seedL 2 1) = [17,154,69,64,150,60,19,152,228,254,217,5,241,222,167,197,46,33,213,218,193,88,62,254,216,94,48,66,222,42,209,18,246,187,8,35,22,101,239,168,168,157,135,226,249,238,225,225,242,89,197,238,162,215,128,224,242,17,205,194,204,18,214,39]:=by
  have e1 : seedL 2 1 = [2,2,7,0,0,0,0,0,0,0,0,0,0,0,0,0,0,0,0,0,0,0,0,0,0,0,0,0,0,0,0,0]:=by decide
  unfold sgD
  rw [e1,digest_eq 1 _ (by decide) (by decide) (by decide +kernel)]
  decide +kernel
 rw [sgAB,e]
 decide +kernel
theorem key_s1 : sgKey (seedL 2 1) = [148,8,82,123,231,209,221,120,8,12,134,125,236,224,244,38,143,255,1,56,177,47,108,125,189,163,7,152,162,23,25,253]:=by
 have e : le (sgAB (seedL 2 1)) = 37459220485791761201693394478579418170293334447921505717062553613588660328976:=by
  rw [ab_s1]
  decide +kernel
 rw [sgKey,e];exact enc_mul _ 35788653197539576792945133746906481626428727851515268332442685110039427234172 _ (by decide) (by decide +kernel) (by decide +kernel)
theorem ab_s2 : sgAB (seedL 2 2) = [120,187,179,236,56,6,31,136,157,128,70,93,92,216,233,196,59,164,53,24,227,15,36,231,61,139,43,234,51,203,233,127]:=by
 have e : sgD (seedL 2 2) = [122,187,179,236,56,6,31,136,157,128,70,93,92,216,233,196,59,164,53,24,227,15,36,231,61,139,43,234,51,203,233,127,240,241,89,248,156,202,34,107,66,102,159,255,130,159,75,163,239,122,92,124,85,145,94,96,168,127,229,196,62,136,127,10]:=by
  have e1 : seedL 2 2 = [3,2,7,0,0,0,0,0,0,0,0,0,0,0,0,0,0,0,0,0,0,0,0,0,0,0,0,0,0,0,0,0]:=by decide
  unfold sgD
  rw [e1,digest_eq 1 _ (by decide) (by decide) (by decide +kernel)]
  decide +kernel
 rw [sgAB,e]
 decide +kernel
theorem key_s2 : sgKey (seedL 2 2) = [119,247,2,254,233,106,174,85,77,10,28,1,122,87,128,86,217,16,236,107,164,56,45,196,22,240,52,221,235,149,233,91]:=by
 have e : le (sgAB (seedL 2 2)) = 57856809590294862558729055533859134318298849888456254260800365305302594337656:=by
  rw [ab_s2]
  decide +kernel
 rw [sgKey,e];exact enc_mul _ 14641147582398029168401922608530425631155075904812979288290035945881444851111 _ (by decide) (by decide +kernel) (by decide +kernel)
theorem ab_s3 : sgAB (seedL 2 3) = [224,199,81,128,198,177,16,218,210,14,164,168,226,62,162,202,236,5,27,255,190,201,37,116,30,27,221,228,50,12,177,121]:=by
 have e : sgD (seedL 2 3) = [228,199,81,128,198,177,16,218,210,14,164,168,226,62,162,202,236,5,27,255,190,201,37,116,30,27,221,228,50,12,177,57,29,5,155,32,222,234,41,217,233,60,56,168,156,152,113,37,251,147,184,253,186,87,223,247,103,128,144,112,197,172,158,160]:=by
  have e1 : seedL 2 3 = [4,2,7,0,0,0,0,0,0,0,0,0,0,0,0,0,0,0,0,0,0,0,0,0,0,0,0,0,0,0,0,0]:=by decide
  unfold sgD
  rw [e1,digest_eq 1 _ (by decide) (by decide) (by decide +kernel)]
  decide +kernel
 rw [sgAB,e]
 decide +kernel
theorem key_s3 : sgKey (seedL 2 3) = [86,213,62,252,206,141,88,46,210,110,243,154,165,133,40,249,240,244,24,148,58,110,161,198,31,55,5,153,252,136,6,80]:=by
 have e : le (sgAB (seedL 2 3)) = 55042670802096662069517119348312776069851910474011583846643475412220225112032:=by
  rw [ab_s3]
  decide +kernel
 rw [sgKey,e];exact enc_mul _ 2069835776665309516713943708189358823604561644580851352028156240548609509407 _ (by decide) (by decide +kernel) (by decide +kernel)
theorem ab_s4 : sgAB (seedL 2 4) = [80,1,178,161,153,163,100,190,28,108,119,215,35,132,236,247,215,31,162,177,11,250,137,158,50,72,231,6,58,167,64,109]:=by
 have e : sgD (seedL 2 4) = [80,1,178,161,153,163,100,190,28,108,119,215,35,132,236,247,215,31,162,177,11,250,137,158,50,72,231,6,58,167,64,109,141,178,0,144,232,98,209,51,11,176,164,7,74,11,219,42,71,25,36,20,195,182,172,75,8,44,35,158,105,199,162,180]:=by
  have e1 : seedL 2 4 = [5,2,7,0,0,0,0,0,0,0,0,0,0,0,0,0,0,0,0,0,0,0,0,0,0,0,0,0,0,0,0,0]:=by decide
  unfold sgD
  rw [e1,digest_eq 1 _ (by decide) (by decide) (by decide +kernel)]
  decide +kernel
 rw [sgAB,e]
 decide +kernel
theorem key_s4 : sgKey (seedL 2 4) = [249,235,95,204,155,29,3,40,48,113,100,182,87,108,9,192,129,234,118,1,237,44,54,54,4,206,192,218,4,206,207,99]:=by
 have e : le (sgAB (seedL 2 4)) = 49416332863765691304153554655022700467342430817205485498069325592916804108624:=by
  rw [ab_s4]
  decide +kernel
 rw [sgKey,e];exact enc_mul _ 1648686736293881646123337587877367217590369786992045139126662723057923581131 _ (by decide) (by decide +kernel) (by decide +kernel)
theorem ab_s5 : sgAB (seedL 2 5) = [96,1,3,176,160,142,157,117,248,100,163,228,70,41,120,127,239,106,167,245,33,169,133,149,138,254,188,119,102,225,58,69]:=by
 have e : sgD (seedL 2 5) = [96,1,3,176,160,142,157,117,248,100,163,228,70,41,120,127,239,106,167,245,33,169,133,149,138,254,188,119,102,225,58,69,108,77,87,140,101,198,129,96,205,237,132,104,6,104,105,243,186,18,123,117,244,255,186,209,138,65,119,12,248,150,27,71]:=by
  have e1 : seedL 2 5 = [6,2,7,0,0,0,0,0,0,0,0,0,0,0,0,0,0,0,0,0,0,0,0,0,0,0,0,0,0,0,0,0]:=by decide
  unfold sgD
  rw [e1,digest_eq 1 _ (by decide) (by decide) (by decide +kernel)]
  decide +kernel
 rw [sgAB,e]
 decide +kernel
theorem key_s5 : sgKey (seedL 2 5) = [82,70,118,49,223,217,255,97,230,42,44,126,44,253,224,191,180,25,62,9,159,171,188,227,217,31,10,112,216,134,65,142]:=by
 have e : le (sgAB (seedL 2 5)) = 31313619337455025470014584870842569592135449972386053527472705165879566074208:=by
  rw [ab_s5]
  decide +kernel
 rw [sgKey,e];exact enc_mul _ 39734242912349475360259521713010815210131576194693757708706792473048834518904 _ (by decide) (by decide +kernel) (by decide +kernel)
theorem ab_s6 : sgAB (seedL 2 6) = [0,244,28,204,145,233,54,45,214,252,215,188,205,5,93,15,132,16,59,88,12,35,130,139,213,78,224,235,215,255,36,111]:=by
 have e : sgD (seedL 2 6) = [3,244,28,204,145,233,54,45,214,252,215,188,205,5,93,15,132,16,59,88,12,35,130,139,213,78,224,235,215,255,36,175,83,169,200,128,66,139,176,252,250,144,238,65,33,114,172,174,109,217,187,17,97,104,221,254,204,176,71,199,253,74,92,50]:=by
  have e1 : seedL 2 6 = [7,2,7,0,0,0,0,0,0,0,0,0,0,0,0,0,0,0,0,0,0,0,0,0,0,0,0,0,0,0,0,0]:=by decide
  unfold sgD
  rw [e1,digest_eq 1 _ (by decide) (by decide) (by decide +kernel)]
  decide +kernel
 rw [sgAB,e]
 decide +kernel
theorem key_s6 : sgKey (seedL 2 6) = [112,231,56,177,42,53,182,206,94,178,99,72,164,235,154,232,96,105,77,159,241,117,218,72,220,54,150,134,197,81,61,36]:=by
 have e : le (sgAB (seedL 2 6)) = 50272098453622219455389115180518222384344242105135165794889111794690123691008:=by
  rw [ab_s6]
  decide +kernel
 rw [sgKey,e];exact enc_mul _ 40695043743906538362069462685866801300749593191401267774408832188153124574609 _ (by decide) (by decide +kernel) (by decide +kernel)
noncomputable def keyL (n : Nat) : List (List UInt8):=(List.range n).map fun i=>sgKey (seedL 2 i)
theorem keyL_7 : keyL 7 = [[186,95,247,28,161,115,243,171,244,106,18,134,149,47,143,198,24,10,247,114,164,214,195,244,155,227,240,154,80,239,217,157],[148,8,82,123,231,209,221,120,8,12,134,125,236,224,244,38,143,255,1,56,177,47,108,125,189,163,7,152,162,23,25,253],[119,247,2,254,233,106,174,85,77,10,28,1,122,87,128,86,217,16,236,107,164,56,45,196,22,240,52,221,235,149,233,91],[86,213,62,252,206,141,88,46,210,110,243,154,165,133,40,249,240,244,24,148,58,110,161,198,31,55,5,153,252,136,6,80],[249,235,95,204,155,29,3,40,48,113,100,182,87,108,9,192,129,234,118,1,237,44,54,54,4,206,192,218,4,206,207,99],[82,70,118,49,223,217,255,97,230,42,44,126,44,253,224,191,180,25,62,9,159,171,188,227,217,31,10,112,216,134,65,142],[112,231,56,177,42,53,182,206,94,178,99,72,164,235,154,232,96,105,77,159,241,117,218,72,220,54,150,134,197,81,61,36]]:=by
 show [sgKey (seedL 2 0),sgKey (seedL 2 1),sgKey (seedL 2 2),sgKey (seedL 2 3),sgKey (seedL 2 4),sgKey (seedL 2 5),sgKey (seedL 2 6)] = _
 rw [key_s0,key_s1,key_s2,key_s3,key_s4,key_s5,key_s6]
theorem keyL_nodup {n : Nat} (h : n ≤ 7) : (keyL n).Nodup:=by
 have e : keyL n = (keyL 7).take n:=by
  unfold keyL
  rw [← List.map_take,List.take_range,Nat.min_eq_left h]
 rw [e];refine List.Nodup.sublist (List.take_sublist _ _) ?_;rw [keyL_7]
 decide +kernel
theorem keyL_len (n : Nat) : (keyL n).length = n:=by simp [keyL]
end Go.Proofs.YtlcbhbahchiofaaGreatDoor
/-
  CERTIFICATES: the seeds.
-/
namespace Go.Proofs.YtlcbhbahchiofaaGreatDoor
open Go.RowKit Go.IntWalk Nums

section
variable {P : Program} {b : Base} {ops : Array Oper} {Q : Exit → Act → World → Prop} {N : Nat} {E : SE} {L : List LV} {R : List Res} {F M : World → Prop} {o : Oper} {k : Nat} {rest : List Oper}
theorem parts_den {G : Nat → Nat} : ∀ (ps : List (Nat × Operand)) (vs : List (Nat × SC)),ps.map (fun p=>(p.1,evS E p.2)) = vs.map (fun x=>(x.1,some (.q (.c x.2)))) → ps.map (fun p=>(p.1,ev (denE G E) p.2)) = (vs.map fun x=>(x.1,x.2.den)).map fun p=>(p.1,some p.2)
 | [],[],_=>rfl
 | [],_ :: _,h=>by cases h
 | _ :: _,[],h=>by cases h
 | p :: ps,v :: vs,h=>by
  simp only [List.map_cons,List.cons.injEq,Prod.mk.injEq] at h ⊢;exact ⟨⟨h.1.1,evS_ok h.1.2⟩,parts_den ps vs h.2⟩
theorem l_buildY {t : TypeId} {parts : Array (Nat × Operand)} (vs : List (Nat × SC)) (n : Nat) (l : List UInt8) (hg : o.guard = none) (hd : o.dst = some k) (hk : Nat.blt k N = true) (ho : o.op = .build t parts) (hv : parts.toList.map (fun p=>(p.1,evS E p.2)) = vs.map (fun x=>(x.1,some (.q (.c x.2)))))
  (hb : P.built t (vs.map fun x=>(x.1,x.2.den)) = some (By l).toArray) (hl : l.length = n) (hn : lS P b ops Q N rest ⟨(k,.q (eY n l)) :: E,L,R,F,M⟩) : lS P b ops Q N (o :: rest) ⟨E,L,R,F,M⟩ :=
 l_f (.q (eY n l)) (eY_ok hl).1 (fun G S w C0 Q' _ _ hQ=>f_build _ _ hg hd hk ho (parts_den _ _ hv) hb hQ) (by rw [ho]; rfl) hn
end
theorem own_seeds : Own 27:=fun _ _=>by go_simp
def seedsL (b : UInt8) (n : Nat) : List (List UInt8):=(List.range n).map (seedL b)
theorem seedsL_next (b : UInt8) (i : Nat) : seedsL b (i + 1) = seedsL b i ++ [seedL b i]:=by simp [seedsL,List.range_succ]
theorem seedsL_len (b : UInt8) (n : Nat) : (seedsL b n).length = n:=by simp [seedsL]
theorem wrap8 {n : Nat} (h : n < 256) : IntKind.u8.wrap (n : Int) = ((UInt8.ofNat n).toNat : Int):=by
 have h1 : (UInt8.ofNat n).toNat = n:=by simp; omega
 rw [h1]
 show (n : Int) % 256 = n
 omega
set_option maxRecDepth 100000 in
set_option maxHeartbeats 1000000 in
theorem seeds_S (n : Nat) (y : UInt8) (hn : n ≤ 200) : Spec 27 [.int .i64 (n : Int),.int .u8 (y.toNat : Int)] [] (fun _=>True)
  { ret:=fun x : Option Addr × Nat=>.v (.slice x.1 n x.2),n:=fun x=>Rd 32 (eY 32) x.1 x.2 (seedsL y n) }:=by
 refine spec_S [.c (.v (.int .i64 (n : Int))),.c (.v (.int .u8 (y.toNat : Int)))] 21 Tryz.func27 rfl (by rw [Tryz.ntmps27]; rfl) (two_ok trivial trivial) fun b=>?_;refine s_auto TY_ok rfl ?_;refine s_auto TY_ok rfl ?_;refine s_nil0 b.B.heap.size 45 32 (eY 32) ?_;refine s_seq fun K hK=>?_;refine s_auto TY_ok rfl ?_;refine s_block ?_
 let F : Nat × Option Addr × Nat → Env:=fun ⟨j,A,c⟩=>⟨[(6,.v (.int .i64 (j : Int))),(0,.v (.int .i64 (n : Int))),(1,.v (.int .u8 (y.toNat : Int))),(5,.v (.slice A (seedsL y j).length c))],[],[OwnS b.B.heap.size 45 32 (eY 32) A c (seedsL y j)],fun _=>True,fun _=>True⟩
 refine c_weak (e':=F (0,none,0)) ⟨⟨rfl,rfl,rfl,rfl,trivial⟩,trivial,.refl _,fun _ h _=>h,fun _ h=>h⟩ (s_loop (fun j=>n - j.1) F (fun j=>j.1 ≤ n) ?_ (0,none,0) (Nat.zero_le _))
 rintro ⟨j,A,c⟩ hj
 dsimp only at hj
 refine s_seq fun K1 hK1=>?_;refine s_auto TY_ok rfl ?_;refine s_ifD ((j : Int) < (n : Int)) rfl (fun hlt=>?_) (fun hge=>?_)
 ·refine s_skip (hK1 _ ?_)
  refine s_seq fun K2 hK2=>?_;refine s_block ?_;refine s_lit ?_;refine l_autoS TY_ok rfl ?_;refine l_num 15 ((UInt8.ofNat (j + 1)).toNat : Int) rfl (by rw [wrapI (r:=((j + 1 : Nat) : Int)) (by omega) (by omega) (by omega),wrap8 (by omega)]) ?_;refine l_buildY [(0,.v (.int .u8 ((UInt8.ofNat (j + 1)).toNat : Int))),(1,.v (.int .u8 (y.toNat : Int))),(2,.v (.int .u8 7))] 32 (seedL y j) rfl rfl rfl rfl rfl rfl (seedL_len y j) ?_;refine l_push TY_ok 0 (seedL y j) rfl rfl rfl rfl rfl rfl rfl (eY_ok (seedL_len y j)) (by decide) (by decide) (by rw [seedsL_len]; show (_ + 1) * 32 ≤ _; omega) (by rw [seedsL_len]; omega) (Nat.le_refl _) fun A' c'=>?_;refine l_autoS TY_ok rfl ?_;refine s_end (hK2 _ ?_);refine s_autoE TY_ok rfl ?_;rw [← seedsL_next];exact k_next (j + 1,A',c') (by show j + 1 ≤ n; omega) (by show n - (j + 1) < n - j; omega) ⟨⟨congrArg some (congrArg SV.v (congrArg (Value.int .i64) (wrapI rfl (by omega) (by omega)))),rfl,rfl,rfl,trivial⟩,trivial,.refl _,fun _ h _=>h,fun _ h=>h⟩
 ·obtain rfl : j = n:=by omega
  refine s_exit (k_pass (k_pass (k_out ?_)));refine hK _ ?_;refine s_auto TY_ok rfl ?_;exact s_ret (k_freeM 0 rfl (Nat.le_refl _) (k_ret TY_ok (A,c) rfl (by decide) rfl (by rw [seedsL_len]; rfl) rfl (fun _ _ _=>trivial) (fun _ h=>h.1)))
end Go.Proofs.YtlcbhbahchiofaaGreatDoor
/-
  CERTIFICATES: without a ring.
-/
namespace Go.Proofs.YtlcbhbahchiofaaGreatDoor
open Go.RowKit Go.IntWalk Nums

end Go.Proofs.YtlcbhbahchiofaaGreatDoor
/-
  CERTIFICATES: the statements' ring, shares that are picked.
-/
namespace Go.Proofs.YtlcbhbahchiofaaGreatDoor
open Go.RowKit Go.IntWalk Nums

theorem own_of8 : Own 10:=fun _ _=>by go_simp
theorem keyL_next (n : Nat) : keyL (n + 1) = keyL n ++ [sgKey (seedL 2 n)]:=by simp [keyL,List.range_succ]
theorem seedsL_at {b : UInt8} {n i : Nat} (h : i < n) : (seedsL b n)[i]? = some (seedL b i):=by simp [seedsL,h]
set_option maxRecDepth 100000 in
set_option maxHeartbeats 2000000 in
theorem of_S (f n : Nat) (hf : n = 3 * f + 1) (hn : n ≤ 7) : Spec 10 [.int .i64 (f : Int)] [] Ta
  { ret:=fun x : RgI × Option Addr × Nat=>.t [.c (.v (ptr x.1.g)),.c (.v (.slice x.2.1 n x.2.2))],own:=fun x=>[RingM x.1.m (keyL n)],n:=fun x w=>RingF x.1 (keyL n) w ∧ Rd 32 (eY 32) x.2.1 x.2.2 (seedsL 2 n) w }:=by
 refine spec_S [.c (.v (.int .i64 (f : Int)))] 33 Tryz.func10 rfl (by rw [Tryz.ntmps10]; rfl) (one_ok trivial) fun b=>?_;refine s_auto TY_ok rfl ?_;refine s_regA TY_ok rfl fun K1 hK1=>?_;have e1 : IntKind.i64.wrap (3 * (f : Int)) = 3 * (f : Int):=wrapI rfl (by omega) (by omega)
 have e2 : IntKind.i64.wrap (IntKind.i64.wrap (3 * (f : Int)) + 1) = (n : Int):=by rw [e1]; exact wrapI (by omega) (by omega) (by omega)
 refine l_num 12 (n : Int) rfl e2 ?_;refine l_callA [.int .i64 (n : Int),.int .u8 ((2 : UInt8).toNat : Int)] rfl rfl rfl own_seeds rfl rfl (fun _ _=>rfl) (seeds_S n 2 (by omega)) (fun w h _=>trivial) fun ⟨A,c⟩=>?_;refine l_autoS TY_ok rfl ?_;refine s_end (hK1 _ ?_);refine s_auto TY_ok rfl ?_;refine s_nil0 b.B.heap.size 45 32 (eY 32) ?_;refine s_seq fun K hK=>?_;refine s_auto TY_ok rfl ?_;refine s_block ?_
 let F : Nat × Option Addr × Nat → Env:=fun ⟨j,A2,c2⟩=>⟨[(16,.v (.int .i64 (j : Int))),(15,.v (.int .i64 (n : Int))),(14,.v (.slice A n c)),(4,.v (.slice A n c)),(5,.v (.slice A2 (keyL j).length c2))],[],[OwnS b.B.heap.size 45 32 (eY 32) A2 c2 (keyL j)],Ta,Rd 32 (eY 32) A c (seedsL 2 n)⟩
 refine c_weak (e':=F (0,none,0)) ⟨⟨rfl,rfl,rfl,rfl,rfl,trivial⟩,trivial,.refl _,fun _ h _=>h.2,fun _ h=>h.1⟩ (s_loop (fun j=>n - j.1) F (fun j=>j.1 ≤ n) ?_ (0,none,0) (Nat.zero_le _))
 rintro ⟨j,A2,c2⟩ hj
 dsimp only at hj
 refine s_auto TY_ok rfl ?_;refine s_seq fun K3 hK3=>?_;refine s_ifD ((j : Int) < (n : Int)) rfl (fun hlt=>?_) (fun hge=>?_)
 ·have hlt : j < n:=by omega
  refine s_skip (hK3 _ ?_);refine s_seq fun K4 hK4=>?_;refine s_block ?_;refine s_reg fun K5 hK5=>?_;refine l_elem TY_ok rfl rfl rfl j rfl (seedsL_at hlt) (seedsL_len 2 n).symm rfl (rd_fact fun w _ h=>h) ?_;refine l_autoS TY_ok rfl ?_;refine s_end (hK5 _ ?_);refine s_lit ?_;refine l_autoS TY_ok rfl ?_;refine l_callA [.agg (By (seedL 2 j)).toArray] rfl rfl rfl own_public rfl rfl (fun _ _=>rfl) (public_S (seedL_len 2 j)) (fun w h _=>h) fun _=>?_;refine l_push TY_ok 0 (sgKey (seedL 2 j)) rfl rfl rfl rfl rfl rfl rfl (eY_ok (sgKey_len _)) (by decide) (by decide) (by rw [keyL_len]; show (_ + 1) * 32 ≤ _; omega) (by rw [keyL_len]; omega) (Nat.le_refl _) fun A' c'=>?_;refine l_autoS TY_ok rfl ?_;refine s_end (hK4 _ ?_);refine s_autoE TY_ok rfl ?_;rw [← keyL_next];exact k_next (j + 1,A',c') (by show j + 1 ≤ n; omega) (by show n - (j + 1) < n - j; omega) ⟨⟨congrArg some (congrArg SV.v (congrArg (Value.int .i64) (wrapI rfl (by omega) (by omega)))),rfl,rfl,rfl,rfl,trivial⟩,trivial,.refl _,fun _ h _=>h.2,fun _ h=>h.2⟩
 ·obtain rfl : j = n:=by omega
  refine s_exit (k_pass (k_pass (k_out ?_)));refine hK _ ?_;refine s_regA TY_ok rfl fun K6 hK6=>?_;refine l_free 0 rfl ?_;refine l_callA [.slice A2 (keyL j).length c2] rfl rfl rfl own_rnew7 rfl rfl (fun _ _=>rfl) (rnew_S (by rw [keyL_len]; omega) (keyL_nodup hn)) (fun w h _=>h.1) fun r=>?_;refine l_autoS TY_ok rfl ?_;refine s_end (hK6 _ ?_);refine s_auto TY_ok rfl ?_;exact s_ret (k_ret TY_ok (r,A,c) rfl (by decide) rfl rfl rfl (fun _ _ _=>trivial) (fun _ h=>⟨h.1,h.2⟩))
end Go.Proofs.YtlcbhbahchiofaaGreatDoor
/-
  PLAIN NUMBERS: the ring's first signature (the seed 3, TagPrepare, 'a'), and that it is none under TagCommit, reckoned.
-/
namespace Go.Proofs.YtlcbhbahchiofaaGreatDoor
open Nums

end Go.Proofs.YtlcbhbahchiofaaGreatDoor
/-
  LITERAL SLICES OF HASHES; '==' of error numbers; what stays where a ring's map was written.
-/
namespace Go.Proofs.YtlcbhbahchiofaaGreatDoor
open Go.RowKit Go.IntWalk Nums

open Classical in
theorem rightB_own7 (seed m : List UInt8) : rightB (sgKey seed) (sgSig seed m) m = true:=by
 unfold rightB
 exact decide_eq_true (right_own seed m)
theorem msg_ca : msg 4 [97] = [119,105,116,97,110,4,0,0,0,0,0,0,0,1,97]:=by decide
end Go.Proofs.YtlcbhbahchiofaaGreatDoor
/-
  CERTIFICATES: what must be answered first.
-/
namespace Go.Proofs.YtlcbhbahchiofaaGreatDoor
open Go.RowKit Go.IntWalk Nums

theorem msg_ra : msg 5 [97] = [119,105,116,97,110,5,0,0,0,0,0,0,0,1,97]:=by decide
open Classical in
theorem first_no8 : rightB (sgKey (seedL 2 0)) (sgSig (seedL 2 0) (msg 5 [97])) (msg 4 [97]) = false:=by
 rw [msg_ra,msg_ca,seedL_one]
 unfold rightB
 exact decide_eq_false not_c8
theorem keyL_one : keyL 1 = [sgKey (seedL 2 0)]:=by simp [keyL]
theorem make_one (key b sig : List UInt8) (m : List UInt8) (h : rightB key sig m = true) : makeC [key] m b [(0,sig)] = some ⟨b,[0],[sig]⟩:=by
 have h1 : gotL [key] m [(0,sig)] 1 = [(0,sig)]:=by
  have h2 : firstR key m 0 [(0,sig)] = some sig:=by
   simp [firstR,isR,h]
  simp [gotL,List.range_succ,h2]
 unfold makeC
 rw [show [key].length = 1 from rfl,h1]
 rfl
theorem check_one (key b sig m : List UInt8) : checkE [key] m ⟨b,[0],[sig]⟩ = if rightB key sig m = true then 0 else 60:=by
 have h1 : okB [key] m [0] [sig] = rightB key sig m:=by
  simp [okB]
 simp [checkE,h1,risingB]
theorem own_first8 : Own 4:=fun _ _=>by go_simp
set_option maxRecDepth 100000 in
set_option maxHeartbeats 2000000 in
theorem first_S : Spec 4 [] [] Ta (one (.v (.bool true))):=by
 refine spec_S [] 50 Tryz.func4 rfl (by rw [Tryz.ntmps4]; rfl) (fun _ h=>(by cases h)) fun b=>?_;refine s_auto TY_ok rfl ?_;refine s_regA TY_ok rfl fun K1 hK1=>?_;refine l_callA [.int .i64 ((0 : Nat) : Int)] rfl rfl rfl own_of8 rfl rfl (fun _ _=>rfl) (of_S 0 1 rfl (by decide)) (fun w h _=>h) fun ⟨r,A,c⟩=>?_;refine l_autoS TY_ok rfl ?_;refine s_end (hK1 _ ?_);refine s_regA TY_ok rfl fun K2 hK2=>?_;refine l_litS [97] rfl rfl rfl rfl (fun _=>rfl) rfl (by decide) (by decide) rfl rfl rfl rfl rfl fun g1=>?_;refine l_autoS TY_ok rfl ?_;refine l_elem TY_ok rfl rfl rfl 0 rfl (seedsL_at (by decide)) rfl rfl (rd_fact fun w _ h=>h.2.1.2) ?_;refine l_litS [97] rfl rfl rfl rfl (fun _=>rfl) rfl (by decide) (by decide) rfl rfl rfl rfl rfl fun g2=>?_;have hse:=seal_S (A:=some ⟨g2,0,none⟩) (c:=1) (seed:=seedL 2 0) (b:=[97]) 5 (seedL_len 2 0) (by decide);have hsl:=sgSig_len (seedL 2 0) (msg 5 [97]);have hy:=rightB_own7 (seedL 2 0) (msg 5 [97]);have hn:=first_no8;rw [keyL_one] at *;have hm1:=make_one (sgKey (seedL 2 0)) [97] _ _ hy;generalize sgKey (seedL 2 0) = key at *;generalize sgSig (seedL 2 0) (msg 5 [97]) = sg at *;refine l_call0 [.agg (By (seedL 2 0)).toArray,.int .u8 ((5 : UInt8).toNat : Int),.slice (some ⟨g2,0,none⟩) [(97 : UInt8)].length 1] rfl rfl rfl own_seal rfl rfl (fun _ _=>rfl) hse (fun w h hM=>⟨h.2,hM.1⟩) fun _=>?_;refine l_autoS TY_ok rfl ?_;refine l_list TY_ok b.B.heap.size [((0 : Int),sg)] (fe:=eSh) rfl rfl rfl rfl rfl (fun _=>rfl) rfl (by decide) (by decide) (fun x hx=>by rw [List.mem_singleton.1 hx]; exact eSh_ok hsl) (Nat.le_refl _) fun P=>?_;refine l_free 0 rfl ?_;refine l_R [RingM r.m [key]] rfl ?_;have hmk:=make_S r [key] (A:=some ⟨g1,0,none⟩) (A2:=P) (c:=1) (c2:=1) (bd:=[97]) [((0 : Int),sg)] 5 (by decide);rw [hm1] at hmk;refine l_callA [ptr r.g,.int .u8 ((5 : UInt8).toNat : Int),.slice (some ⟨g1,0,none⟩) [(97 : UInt8)].length 1,.slice P 1 1] rfl rfl rfl own_make rfl rfl (fun _ _=>rfl) hmk (fun w h hM=>⟨⟨hM.2.2.2.1.1,h.2.2.2,hM.2.2.1⟩,h.1⟩) fun ci=>?_;refine l_autoS TY_ok rfl ?_;refine s_end (hK2 _ ?_);refine s_regA TY_ok rfl fun K3 hK3=>?_;refine l_is 26 true rfl (by decide) ?_;refine l_autoS TY_ok rfl ?_;refine l_is 32 true rfl (decide_eq_true rfl) ?_;refine l_autoS TY_ok rfl ?_;have hk1:=check_S r [key] ci ⟨[97],[0],[sg]⟩ 5 (by show 1 ≤ _; decide);rw [check_one,if_pos hy] at hk1;refine l_callA [ptr r.g,.int .u8 ((5 : UInt8).toNat : Int),(eC ci ⟨[97],[0],[sg]⟩).den] rfl rfl rfl own_check rfl rfl (fun _ _=>rfl) hk1 (fun w h hM=>⟨hM.2.2.2.2.1.1,h.2.2.2.2,hM.1 _ rfl⟩) fun _=>?_;refine l_autoS TY_ok rfl ?_;refine l_is 38 true rfl (by decide) ?_;refine l_autoS TY_ok rfl ?_;have hk2:=check_S r [key] ci ⟨[97],[0],[sg]⟩ 4 (by show 1 ≤ _; decide);rw [check_one,if_neg (by rw [hn]; decide)] at hk2;refine l_callA [ptr r.g,.int .u8 ((4 : UInt8).toNat : Int),(eC ci ⟨[97],[0],[sg]⟩).den] rfl rfl rfl own_check rfl rfl (fun _ _=>rfl) hk2 (fun w h hM=>⟨hM.2.2.2.2.2.1.1,h.2.2.2.2.2,hM.2.1 _ rfl⟩) fun _=>?_
 refine l_autoS TY_ok rfl ?_;refine l_is 44 true rfl (by decide) ?_;refine l_autoS TY_ok rfl ?_;have hk3:=check_S r [key] ci0 cv0 5 (by decide);rw [show checkE [key] (msg 5 cv0.body) cv0 = 80 by simp [checkE,cv0]] at hk3;refine l_callA [ptr r.g,.int .u8 ((5 : UInt8).toNat : Int),(eC ci0 cv0).den] rfl rfl rfl own_check rfl rfl (fun _ _=>rfl) hk3 (fun w h hM=>⟨hM.2.2.2.2.2.2.1.1,h.2.2.2.2.2.2,certF0 w⟩) fun _=>?_;refine l_autoS TY_ok rfl ?_;refine s_end (hK3 _ ?_);exact s_ret (k_drop 0 rfl (k_retD TY_ok () rfl (by decide) rfl rfl trivial rfl (fun _ _ _=>trivial) (fun _ _=>trivial)))
end Go.Proofs.YtlcbhbahchiofaaGreatDoor
/-
  THE LAW: certificates' bytes.
-/
namespace Go.Proofs.YtlcbhbahchiofaaGreatDoor
open Go.RowKit Go.IntWalk

theorem paC_64 (l : List UInt8) : ∀ x ∈ (paC l).si,x.length = 64:=fun x hx=>by
 unfold paC at hx
 split at hx
 ·obtain ⟨i,_,rfl⟩:=List.mem_map.1 hx
  exact sgO_len _
 ·cases hx
set_option maxRecDepth 100000 in
set_option maxHeartbeats 4000000 in
theorem lbytes_S (ci : CI) (cv : CV) {A : Option Addr} {c : Nat} (l : List UInt8) (hl : 16 + cv.body.length + 72 * cv.sg.length ≤ 140737488355328) (hl2 : l.length ≤ 140737488355328) : Spec 3 [(eC ci cv).den,.slice A l.length c] [] (fun w=>Ta w ∧ CertF ci cv w ∧ Rd 1 eB A c l w) (one (.v (.bool true))):=by
 refine spec_S [eC ci cv,.c (.v (.slice A l.length c))] 70 Tryz.func3 rfl (by rw [Tryz.ntmps3]; rfl) (two_ok (eC_ok ci cv) trivial) fun b=>?_;refine s_pure (∀ x ∈ cv.si,x.length = 64) (fun w h _=>fun x hx=>eY_len (h.2.1.2.2.2.2.2.1 x hx).1) fun h64=>?_;have hbl:=bytesC_len cv h64;refine s_auto TY_ok rfl ?_;refine s_seq fun K hK=>?_;refine s_regA TY_ok rfl fun K1 hK1=>?_;refine l_call0 [] rfl rfl rfl own_first8 rfl rfl (fun _ _=>rfl) first_S (fun w h _=>h.1) fun _=>?_;refine l_autoS TY_ok rfl ?_;refine s_end (hK1 _ ?_);refine s_no rfl ?_;refine s_skip (hK _ ?_);refine s_regA TY_ok rfl fun K2 hK2=>?_;refine l_call0 [(eC ci cv).den] rfl rfl rfl own_cbytes rfl rfl (fun _ _=>rfl) (cbytes_S ci cv hl) (fun w h _=>h.2.2.1) fun gx=>?_;refine l_autoS TY_ok rfl ?_;refine s_end (hK2 _ ?_);refine s_locs fun G=>?_;refine s_seq fun K3 hK3=>?_;refine s_seq fun K4 hK4=>?_
 have hgo : ∀ e,Weak e ⟨[(1,.v (.slice A l.length c)),(2,.a 2 0),(5,.v (.slice (some ⟨gx,0,none⟩) (bytesC cv).length (bytesC cv).length)),(22,.v (.bool false))],[⟨2,some (G 2),26,(eC ci cv).parts1⟩],[],fun w=>Ta w ∧ CertF ci cv w ∧ Rd 1 eB A c l w,Rd 1 eB (some ⟨gx,0,none⟩) (bytesC cv).length (bytesC cv)⟩ → kS b K4 70 e:=by
  intro e hw
  refine k_weak hw (hK4 _ ?_);refine s_no rfl ?_;refine s_skip (hK3 _ (k_noloc ?_));refine s_seq fun K5 hK5=>?_;refine s_regA TY_ok rfl fun K6 hK6=>?_;refine l_list TY_ok b.B.heap.size [⟨some ⟨gx,0,none⟩,(bytesC cv).length,(bytesC cv)⟩,⟨A,c,l⟩] (fe:=eSeg) rfl rfl rfl rfl rfl (fun _=>rfl) rfl (by decide) (by decide) (okF_seg _) (Nat.le_refl _) fun P=>?_;refine l_free 0 rfl ?_;refine l_autoS TY_ok rfl ?_;refine s_end (hK6 _ ?_);refine s_block ?_
  let F : Nat → Env:=fun a=>⟨[(27,.v (.int .i64 (a : Int))),(26,.v (.int .i64 2)),(25,.v (.slice P 2 2))],[],[],fun w=>Ta w ∧ Rd 1 eSeg P 2 [⟨some ⟨gx,0,none⟩,(bytesC cv).length,(bytesC cv)⟩,⟨A,c,l⟩] w ∧ ∀ s ∈ ([⟨some ⟨gx,0,none⟩,(bytesC cv).length,(bytesC cv)⟩,⟨A,c,l⟩] : List Seg),s.rd w,fun _=>True⟩
  refine c_weak (e':=F 0) ⟨⟨rfl,rfl,rfl,trivial⟩,trivial,.refl _,fun w h hM=>⟨h.2.1,h.1,fun s hs=>by
   rcases List.mem_cons.1 hs with rfl | hs
   ·exact hM
   ·rw [List.mem_singleton.1 hs]
    exact h.2.2.2⟩,fun _ _=>trivial⟩ (s_loop (fun a=>2 - a) F (fun a=>a ≤ 2) ?_ 0 (Nat.zero_le _))
  intro a ha
  refine s_auto TY_ok rfl ?_;refine s_seq fun K7 hK7=>?_;refine s_ifD ((a : Int) < 2) rfl (fun hlt=>?_) (fun hge=>?_)
  ·have hlt : a < 2:=by omega
   obtain ⟨s,hs⟩ : ∃ s,([⟨some ⟨gx,0,none⟩,(bytesC cv).length,(bytesC cv)⟩,⟨A,c,l⟩] : List Seg)[a]? = some s:=⟨_,List.getElem?_eq_getElem hlt⟩;have hsm:=List.mem_of_getElem? hs
   have hsl : s.l.length ≤ 140737488355328:=by
    rcases List.mem_cons.1 hsm with rfl | hs
    ·show (bytesC cv).length ≤ _
     omega
    ·rw [List.mem_singleton.1 hs]
     exact hl2
   refine s_skip (hK7 _ ?_);refine s_seq fun K8 hK8=>?_;refine s_block ?_;refine s_regA TY_ok rfl fun K9 hK9=>?_;refine l_elem TY_ok rfl rfl rfl a rfl hs rfl rfl (rd_fact fun w h _=>h.2.1) ?_;refine l_autoS TY_ok rfl ?_;refine s_end (hK9 _ ?_);refine s_regA TY_ok rfl fun K10 hK10=>?_;refine l_strB s.l rfl rfl rfl rfl rfl (rd_fact fun w h _=>h.2.2 s hsm) ?_;refine l_autoS TY_ok rfl ?_;refine s_end (hK10 _ ?_);refine s_regA TY_ok rfl fun K11 hK11=>?_;refine l_call0 [.slice s.A s.l.length s.c] rfl rfl rfl own_cparse rfl rfl (fun _ _=>rfl) (cparse_S s.l (by omega)) (fun w h _=>h.2.2 s hsm) fun i=>?_;refine l_autoS TY_ok rfl ?_;refine s_end (hK11 _ ?_);refine s_regA TY_ok rfl fun K12 hK12=>?_;refine l_call0 [.slice s.A s.l.length s.c] rfl rfl rfl own_fparse rfl rfl (fun _ _=>rfl) (fparse_S s.l) (fun w h _=>h.2.2.2 s hsm) fun j=>?_;refine l_autoS TY_ok rfl ?_;refine s_end (hK12 _ ?_);refine s_regA TY_ok rfl fun K13 hK13=>?_;refine l_is 46 false rfl (by simp) ?_;refine l_autoS TY_ok rfl ?_;refine l_call0 [(eC i (paC s.l)).den,(eC j (paC s.l)).den] rfl rfl rfl own_fsame rfl rfl (fun _ _=>rfl) (fsame_S i j (paC s.l)) (fun w h hM=>⟨hM.2.1,h.1⟩) fun _=>?_;refine l_autoS TY_ok rfl ?_;refine l_strB s.l rfl rfl rfl rfl rfl (rd_fact fun w h _=>h.2.2.2.2.2 s hsm) ?_;refine l_autoS TY_ok rfl ?_;refine l_op (.b (!decide (s.l = s.l))) trivial rfl rfl rfl (run_neqS rfl rfl rfl) ?_;refine l_autoS TY_ok rfl ?_;refine l_is 58 false rfl (by simp) ?_;refine l_autoS TY_ok rfl ?_
   have hnx : ∀ e,Weak e ⟨[(27,.v (.int .i64 (a : Int))),(26,.v (.int .i64 2)),(25,.v (.slice P 2 2)),(68,.v (.bool false))],[],[],fun w=>Ta w ∧ Rd 1 eSeg P 2 [⟨some ⟨gx,0,none⟩,(bytesC cv).length,(bytesC cv)⟩,⟨A,c,l⟩] w ∧ ∀ s ∈ ([⟨some ⟨gx,0,none⟩,(bytesC cv).length,(bytesC cv)⟩,⟨A,c,l⟩] : List Seg),s.rd w,fun _=>True⟩ → kS b K13 70 e:=by
    intro e hw
    refine k_weak hw (hK13 _ ?_);refine s_no rfl ?_;refine s_skip (hK8 _ ?_);refine s_autoE TY_ok rfl ?_;exact k_next (a + 1) hlt (by show 2 - (a + 1) < 2 - a; omega) ⟨⟨congrArg some (congrArg SV.v (congrArg (Value.int .i64) (wrapI rfl (by omega) (by omega)))),rfl,rfl,trivial⟩,trivial,.refl _,fun _ h _=>h,fun _ h=>h⟩
   by_cases h0 : (paE s.l : Int) = 0
   ·have hbk:=back (l:=s.l) (by omega)
    have hbl2:=bytesC_len (paC s.l) (paC_64 s.l);rw [hbk] at hbl2;refine l_is 61 true rfl (decide_eq_true h0) ?_;refine l_autoS TY_ok rfl ?_;refine l_call0 [(eC i (paC s.l)).den] rfl rfl rfl own_cbytes rfl rfl (fun _ _=>rfl) (cbytes_S i (paC s.l) (by omega)) (fun w h hM=>hM.2.2.1) fun gy=>?_;refine l_autoS TY_ok rfl ?_;refine l_strB (bytesC (paC s.l)) rfl rfl rfl rfl rfl (rd_fact fun w h hM=>hM.1) ?_;refine l_autoS TY_ok rfl ?_;refine l_op (.b (!decide (bytesC (paC s.l) = s.l))) trivial rfl rfl rfl (run_neqS rfl rfl rfl) ?_;refine l_autoS TY_ok rfl ?_;refine l_is 68 false rfl (by rw [decide_eq_true hbk]; rfl) ?_;exact s_end (hnx _ ⟨⟨rfl,rfl,rfl,rfl,trivial⟩,trivial,.refl _,fun w h _=>h.2.2.2.2,fun _ _=>trivial⟩)
   ·refine l_is 61 false rfl (decide_eq_false h0) ?_
    refine l_autoS TY_ok rfl ?_;exact s_end (hnx _ ⟨⟨rfl,rfl,rfl,rfl,trivial⟩,trivial,.refl _,fun w h _=>h.2.2.2,fun _ _=>trivial⟩)
  ·refine s_exit (k_pass (k_pass (k_out ?_)))
   refine hK5 _ ?_;refine s_auto TY_ok rfl ?_;exact s_ret (k_ret TY_ok () rfl (by decide) rfl rfl rfl (fun _ _ _=>trivial) (fun _ _=>trivial))
 refine s_any 5 [⟨2,some (G 2),26,(eC ci cv).parts1⟩] (by kernel_rfl) (by decide) (inv_of fun x hx=>by rw [List.mem_singleton.1 hx]; exact ⟨List.mem_cons_self,rfl⟩) ?_;refine a_front TY_ok 0 (by kernel_rfl) rfl rfl rfl rfl rfl rfl (fun x hx=>by rw [List.mem_singleton.1 hx]; exact List.mem_cons_self) ?_;refine a_front TY_ok 2 (by kernel_rfl) rfl rfl rfl rfl rfl rfl (fun x hx=>by rw [List.mem_singleton.1 hx]; exact List.mem_cons_self) ?_;refine a_step2 1 3 (by kernel_rfl) rfl rfl (fun K10 hK10=>?_) (fun K10 hK10=>?_)
 ·refine l_strB (bytesC cv) rfl rfl rfl rfl rfl (rd_fact fun w h hM=>hM.1) ?_
  refine s_end (hK10 _ (inv_of fun x hx=>by rw [List.mem_singleton.1 hx]; exact ⟨List.mem_cons_self,rfl⟩) ?_);refine a_step 3 (by kernel_rfl) rfl fun K11 hK11=>?_;refine l_call0 [(eC ci cv).den] rfl rfl rfl own_fbytes rfl rfl (fun _ _=>rfl) (fbytes_S ci cv hl) (fun w h _=>h.2.2.2.1) fun ⟨Ay,cy⟩=>?_;refine s_end (hK11 _ (inv_of fun x hx=>by rw [List.mem_singleton.1 hx]; exact ⟨List.mem_cons_self,rfl⟩) ?_);refine a_step 4 (by kernel_rfl) rfl fun K12 hK12=>?_;refine l_strB (bytesC cv) rfl rfl rfl rfl rfl (rd_fact fun w h hM=>h.1) ?_;refine s_end (hK12 _ (inv_of fun x hx=>by rw [List.mem_singleton.1 hx]; exact ⟨List.mem_cons_self,rfl⟩) ?_);refine a_tail (by kernel_rfl) ?_;refine l_op (.b (!decide ((bytesC cv) = (bytesC cv)))) trivial rfl rfl rfl (run_neqS rfl rfl rfl) ?_;refine l_is 22 false rfl (by simp) ?_;exact s_end (hgo _ ⟨⟨rfl,rfl,rfl,rfl,trivial⟩,⟨rfl,rfl,trivial⟩,.refl _,fun w h _=>h.2.2.2,fun w h=>h.2.1⟩)
 ·refine l_call0 [(eC ci cv).den] rfl rfl rfl own_fbytes rfl rfl (fun _ _=>rfl) (fbytes_S ci cv hl) (fun w h _=>h.2.2.2.1) fun ⟨Ay,cy⟩=>?_
  refine s_end (hK10 _ (inv_of fun x hx=>by rw [List.mem_singleton.1 hx]; exact ⟨List.mem_cons_self,rfl⟩) ?_);refine a_step2 1 4 (by kernel_rfl) rfl rfl (fun K11 hK11=>?_) (fun K11 hK11=>?_)
  ·refine l_strB (bytesC cv) rfl rfl rfl rfl rfl (rd_fact fun w h hM=>hM.2.1) ?_
   refine s_end (hK11 _ (inv_of fun x hx=>by rw [List.mem_singleton.1 hx]; exact ⟨List.mem_cons_self,rfl⟩) ?_);refine a_step 4 (by kernel_rfl) rfl fun K12 hK12=>?_;refine l_strB (bytesC cv) rfl rfl rfl rfl rfl (rd_fact fun w h hM=>h.1) ?_;refine s_end (hK12 _ (inv_of fun x hx=>by rw [List.mem_singleton.1 hx]; exact ⟨List.mem_cons_self,rfl⟩) ?_);refine a_tail (by kernel_rfl) ?_;refine l_op (.b (!decide ((bytesC cv) = (bytesC cv)))) trivial rfl rfl rfl (run_neqS rfl rfl rfl) ?_;refine l_is 22 false rfl (by simp) ?_;exact s_end (hgo _ ⟨⟨rfl,rfl,rfl,rfl,trivial⟩,⟨rfl,rfl,trivial⟩,.refl _,fun w h _=>h.2.2.2,fun w h=>h.2.1⟩)
  ·refine l_strB (bytesC cv) rfl rfl rfl rfl rfl (rd_fact fun w h hM=>h.1) ?_
   refine s_end (hK11 _ (inv_of fun x hx=>by rw [List.mem_singleton.1 hx]; exact ⟨List.mem_cons_self,rfl⟩) ?_);refine a_step 1 (by kernel_rfl) rfl fun K12 hK12=>?_;refine l_strB (bytesC cv) rfl rfl rfl rfl rfl (rd_fact fun w h hM=>hM.2.1) ?_;refine s_end (hK12 _ (inv_of fun x hx=>by rw [List.mem_singleton.1 hx]; exact ⟨List.mem_cons_self,rfl⟩) ?_);refine a_tail (by kernel_rfl) ?_;refine l_op (.b (!decide ((bytesC cv) = (bytesC cv)))) trivial rfl rfl rfl (run_neqS rfl rfl rfl) ?_;refine l_is 22 false rfl (by simp) ?_;exact s_end (hgo _ ⟨⟨rfl,rfl,rfl,rfl,trivial⟩,⟨rfl,rfl,trivial⟩,.refl _,fun w h _=>h.2.2.2,fun w h=>h.2.1⟩)
end Go.Proofs.YtlcbhbahchiofaaGreatDoor
/-
  FROM A WALK TO A LAW'S ROW: the arguments read behind the call as they read before; arrays of 32 bytes, opened.
-/
namespace Go.Proofs.YtlcbhbahchiofaaGreatDoor
open Go.ChangeShapes Go.WideShapes Go.ChangeAt Go.RowKit

theorem own : ownKnob Tryz.prog.godebug = none:=by kernel_rfl
theorem laidOut : laidOutB Tryz.prog = true:=by kernel_rfl

section
variable {H : Type} {enc : TypeId × Value → H} {W W' : World}

theorem trodAll_below : ∀ {ts : List TypeId} {vs : List Value} {ds : List (DataW H)} {p : List MemPlace},(∀ t ∈ ts,Tryz.prog.readableRec t = true ∧ t < Tryz.prog.types.size) →
  DataW.TrodAll enc Tryz.prog W 0 (fun _=>true) true ts vs ds p → Below W.heap.size W W' → (∀ x ∈ p,x.block < W.heap.size) → DataW.TrodAll enc Tryz.prog W' 0 (fun b=>decide (b < W.heap.size)) true ts vs ds p
 | [],_,_,_,_,h,_,_=>by
  obtain ⟨rfl,rfl,rfl⟩:=trodAll_nil h;exact trodAll_mk0
 | t :: ts,_,_,_,hts,h,hb,hlt=>by
  obtain ⟨v,vs',d,ds',p,q,rfl,rfl,rfl,h0,h1⟩:=trodAll_cons h;obtain ⟨hr,hz⟩:=hts t (by simp);exact trodAll_cons_mk (Below.trod laidOut hr hz h0 hb (fun x hx=>hlt x (by simp [hx]))) (trodAll_below (fun u hu=>hts u (by simp [hu])) h1 hb (fun x hx=>hlt x (by simp [hx])))

theorem law_post {f : Func} {s : ChangeSpec} {args : Array Value} {ds gs : List (DataW H)} {before : List MemPlace} (hf : f.resultTypes = #[4]) (hvars : s.vars = [])
  (hts : ∀ t ∈ f.params.toList,Tryz.prog.readableRec t = true ∧ t < Tryz.prog.types.size)
  (hW : DataW.Whole enc Tryz.prog f.params.toList s.vars false W args.toList ds gs before) (hs : s.fn H (ds ++ gs) = { results:=[.lit (.bool true)],args:=ds }) (hb : Below W.heap.size W W') :
  s.post enc Tryz.prog f false true false false W args (.bool true) W':=by
 have hW':=hW;obtain ⟨p,q,hA,hV,rfl,_,_⟩:=hW;rw [hvars] at hV;obtain ⟨rfl,rfl⟩:=trodVars_none hV;have hlt : ∀ x ∈ p,x.block < W.heap.size:=fun x hx=>hW'.lt x (by simp [hx]);refine ⟨ds,[],p ++ [],[],p,[],hW',?_,?_,?_,hb.frame _,fun h=>by cases h⟩
 ·rw [hs,hf]
  exact trodAll_mk1 (shut_bool Tryz.underlying4 true)
 ·rw [hs]
  exact trodAll_below hts hA hb hlt
 ·rw [hs,hvars]
  rfl
end

theorem cells8 : Tryz.prog.cellsOf 5 = 1:=by kernel_rfl
theorem one_of {l : List Value} {i : Nat} {v : Value} (h : (l.drop (i * 1)).take 1 = [v]) : l[i]? = some v:=by
 rw [Nat.mul_one] at h
 have h1 : ((l.drop i).take 1)[0]? = some v:=by rw [h]; rfl
 rw [List.getElem?_take,if_pos (by omega),List.getElem?_drop] at h1
 simpa using h1

/-! ### Arrays of 32 bytes -/
end Go.Proofs.YtlcbhbahchiofaaGreatDoor
/-
  FROM A WALK TO A LAW'S ROW: slices of bytes and arrays of 64 bytes, opened.
-/
namespace Go.Proofs.YtlcbhbahchiofaaGreatDoor
open Go.RowKit Go.IntWalk
open Go.ChangeShapes Go.WideShapes Go.ChangeAt

theorem open_bytes {H : Type} {enc : TypeId × Value → H} {W : World} {held : Bool} {fuel : Nat} {cs : List Value} {x : DataW H × List MemPlace} (h : DataW.trod enc Tryz.prog W 0 (fun _=>true) held fuel 22 cs = some x) :
  ∃ (A : Option Addr) (l : List UInt8) (c : Nat),cs = [.slice A l.length c] ∧ SL W 0 W.heap.size A l c:=by
 rcases open_ints Tryz.underlying22 Tryz.underlying5 cells8 h with ⟨rfl,rfl⟩ | ⟨a,len,cap,zs,rfl,_,hl,hm,hz,rfl,hcell,hwz⟩
 ·exact ⟨none,[],0,rfl,SL.nil _ _ _⟩
 ·have hz' : zs.length = cap:=hz
  have hlen : ((zs.take len).map fun z=>UInt8.ofNat z.toNat).length = len:=by simp; omega
  refine ⟨some a,(zs.take len).map fun z=>UInt8.ofNat z.toNat,cap,by rw [hlen],by rw [hlen]; exact hl,by unfold maxLen at hm; omega,fun h=>(by cases h),fun hpos=>⟨a,rfl,Nat.zero_le _,?_,fun j x hx=>?_⟩⟩
  ·have h0 : 0 < zs.length:=by rw [hlen] at hpos; omega
   have:=World.block_lt_of_cell? W _ (hcell 0 h0)
   rwa [block_add] at this
  ·simp only [List.getElem?_map,List.getElem?_take,Option.map_eq_some_iff] at hx
   obtain ⟨z,hz,rfl⟩:=hx
   split at hz
   ·have hj:=(List.getElem?_eq_some_iff.1 hz).1
    have hb:=range_u8 hwz j
    have hg : zs.getD j 0 = z:=by simp [List.getD,hz]
    rw [hz] at hb;simp only [Option.getD_some] at hb;rw [hcell j hj,hg]
    have e : (UInt8.ofNat z.toNat).toNat = z.toNat:=by
     simp
     omega
    rw [e,Int.toNat_of_nonneg hb.1]
   ·cases hz

theorem cells_w : Tryz.prog.cellsOf 43 = 64:=by kernel_rfl
theorem by_of64 {cs : List Value} (hl : cs.length = 64) (h : ∀ i,i < 64 → ∃ n : Int,cs[i]? = some (.int .u8 n) ∧ 0 ≤ n ∧ n < 256) : ∃ l : List UInt8,l.length = 64 ∧ cs = By l:=by
 refine ⟨cs.map fun v=>match v with | .int _ n=>UInt8.ofNat n.toNat | _=>0,by simp [hl],?_⟩
 apply List.ext_getElem (by simp [By])
 intro i h1 h2
 obtain ⟨n,hn,h0,h3⟩:=h i (by omega)
 have e : cs[i] = .int .u8 n:=by
  have:=List.getElem?_eq_getElem h1;rw [hn] at this;exact (Option.some.inj this).symm
 simp only [By,List.getElem_map,e]
 congr 1
 rw [UInt8.toNat_ofNat']
 omega
end Go.Proofs.YtlcbhbahchiofaaGreatDoor
/-
  FROM A WALK TO A LAW'S ROW: the three tables' cells, from what the row lists.
-/
namespace Go.Proofs.YtlcbhbahchiofaaGreatDoor
open Go.ChangeShapes Go.WideShapes Go.ChangeAt Go.RowKit Nums

def laid3 : List (String × DataW Unit):=[("witan/field.twice",Rows.laid_witan_field_twice),("witan/sha.starts",Rows.laid_witan_sha_starts),("witan/sha.steps",Rows.laid_witan_sha_steps)]
theorem cells64 : Tryz.prog.cellsOf 51 = 1:=by kernel_rfl
theorem door_met (os : Os) (args : Array Value) : laidMetH Tryz.prog laid3 ((World.doorLaid Tryz.prog 400 os).forCall (fun _ _=>0) ⟨#[],args,[]⟩).memory :=
 laidMetH_of_parts3 (fuel:=8) (laidMet_of_run' 8 (by kernel_rfl) (by kernel_rfl)) (by kernel_rfl) (by kernel_rfl)
set_option maxRecDepth 20000 in
theorem table_cells {W : World} {nm : String} {g g0 t0 tid n fuel : Nat} {l : List Nat} {datum : DataW Unit} {cs : List Value} {p : List MemPlace} (hg : Tryz.prog.globalNamed nm = some g) (ht : (Tryz.prog.globals[g]?).map (·.type) = some tid) (hu : Tryz.prog.underlying tid = some (.array n 51))
  (hd : datum = .agg (l.map fun (x : Nat)=>.lit (.int .u64 (x : Int)))) (hg0 : Tryz.prog.globalNamed nm = some g0) (ht0 : (Tryz.prog.globals[g0]?).map (·.type) = some t0) (hv0 : W.var? Tryz.prog nm = some cs.toArray) (hd0 : DataW.trod (fun _=>()) Tryz.prog W 0 (fun _=>true) false fuel t0 cs = some (datum,p)) :
  ∀ i,i < n → W.cell? ⟨g,i,none⟩ = some (.int .u64 (l[i]! : Nat)):=by
 obtain rfl:=Option.some.inj (hg.symm.trans hg0);obtain rfl:=Option.some.inj (ht.symm.trans ht0);obtain ⟨xs,m1,rfl,hx1,hlen,hn5,hel⟩:=DataW.trod_array hu hd0;have hx2:=congrArg Prod.fst hx1;rw [hd] at hx2
 injection hx2 with hx2
 intro i hi
 have h0:=hel i hi;rw [cells64] at h0;obtain ⟨x,hxi⟩ : ∃ x,xs[i]? = some x:=⟨xs[i]'(by omega),List.getElem?_eq_getElem (by omega)⟩;rw [hxi] at h0;obtain ⟨n',e1,e2,_⟩:=DataW.trod_int Tryz.underlying51 h0
 have hll : l.length = n:=by
  have:=congrArg List.length hx2;simp only [List.length_map] at this
  omega
 have h3 : (l.map fun (x : Nat)=>(DataW.lit (.int .u64 (x : Int)) : DataW Unit))[i]? = (xs.map (·.1))[i]?:=by rw [hx2]
 rw [List.getElem?_map,List.getElem?_map,hxi,List.getElem?_eq_getElem (by omega)] at h3;simp only [Option.map_some,Option.some.injEq] at h3;rw [e2] at h3
 have hn : n' = ((l[i]! : Nat) : Int):=by
  rw [getElem!_pos l i (by omega)]
  injection h3 with h3
  injection h3 with _ h3
  exact h3.symm
 subst hn;have hcell:=World.var?_cell hg hv0 i;rw [hcell];have:=one_of e1
 simpa using this
set_option maxRecDepth 20000 in
theorem of_laid {W : World} (h : laidMetH Tryz.prog laid3 W) : Ta W:=by
 rw [MakeChecks.laidMetH_plain _ _ _ (by kernel_rfl)] at h;obtain ⟨ps,⟨g0,t0,cs0,f0,p0,q0,hg0,ht0,hv0,hd0,⟨g1,t1,cs1,f1,p1,q1,hg1,ht1,hv1,hd1,⟨g2,t2,cs2,f2,p2,q2,hg2,ht2,hv2,hd2,_,_⟩,_⟩,_⟩,_,_⟩:=h;have c0:=table_cells (l:=twl) (n:=5) (g:=2) (tid:=108) (by kernel_rfl) (by kernel_rfl) Tryz.underlying108 (by kernel_rfl) hg0 ht0 hv0 hd0;have c1:=table_cells (l:=sqs) (n:=8) (g:=0) (tid:=120) (by kernel_rfl) (by kernel_rfl) Tryz.underlying120 (by kernel_rfl) hg1 ht1 hv1 hd1;have c2:=table_cells (l:=cbs) (n:=80) (g:=1) (tid:=148) (by kernel_rfl) (by kernel_rfl) Tryz.underlying148 (by kernel_rfl) hg2 ht2 hv2 hd2;exact ⟨⟨c0,World.block_lt_of_cell? W ⟨2,0,none⟩ (c0 0 (by omega))⟩,⟨⟨c2,World.block_lt_of_cell? W ⟨1,0,none⟩ (c2 0 (by omega))⟩,c1,World.block_lt_of_cell? W ⟨0,0,none⟩ (c1 0 (by omega))⟩⟩
end Go.Proofs.YtlcbhbahchiofaaGreatDoor
/-
  FROM A WALK TO A LAW'S ROW: slices of hashes, opened.
-/
namespace Go.Proofs.YtlcbhbahchiofaaGreatDoor
open Go.RowKit Go.IntWalk
open Go.ChangeShapes Go.WideShapes Go.ChangeAt

theorem pick_list {α : Type} (P : Nat → α → Prop) : ∀ n,(∀ i,i < n → ∃ l,P i l) → ∃ ks : List α,ks.length = n ∧ ∀ i l,ks[i]? = some l → P i l
 | 0,_=>⟨[],rfl,fun i l h=>by simp at h⟩
 | n + 1,h=>by
  obtain ⟨ks,hl,hk⟩:=pick_list P n fun i hi=>h i (by omega);obtain ⟨l,hp⟩:=h n (by omega);refine ⟨ks ++ [l],by simp [hl],fun i x hx=>?_⟩
  by_cases hi : i < ks.length
  ·rw [List.getElem?_append_left hi] at hx
   exact hk i x hx
  ·rw [List.getElem?_append_right (by omega)] at hx
   have h0 : i - ks.length = 0:=by
    by_cases e : i - ks.length = 0
    ·exact e
    ·rw [List.getElem?_eq_none (by simp; omega)] at hx
     cases hx
   rw [h0] at hx
   obtain rfl : l = x:=by simpa using hx
   obtain rfl : i = n:=by omega
   exact hp
end Go.Proofs.YtlcbhbahchiofaaGreatDoor
/-
  FROM A WALK TO A LAW'S ROW: slices of anything, opened.
-/
namespace Go.Proofs.YtlcbhbahchiofaaGreatDoor
open Go.RowKit Go.IntWalk
open Go.ChangeShapes Go.WideShapes Go.ChangeAt

set_option maxRecDepth 20000 in
theorem open_rd {α H : Type} {enc : TypeId × Value → H} {W : World} {held : Bool} {fuel : Nat} {t e : TypeId} {k : Nat} {fe : α → SQ} {cs : List Value} {x : DataW H × List MemPlace} (ht : Tryz.prog.underlying t = some (.slice e)) (hk : Tryz.prog.cellsOf e = k) (hk0 : 0 < k)
  (hel : ∀ n cs x,DataW.trod enc Tryz.prog W 0 (fun _=>true) held n e cs = some x → ∃ a : α,cs = (fe a).cl ∧ OkP (fe a).parts1 ∧ (fe a).cl.length = k)
  (h : DataW.trod enc Tryz.prog W 0 (fun _=>true) held fuel t cs = some x) :
  ∃ (A : Option Addr) (l : List α) (c : Nat),cs = [.slice A l.length c] ∧ Rd k fe A c l W:=by
 rcases DataW.trod_slice ht h with ⟨rfl,_⟩ | ⟨a,len,cap,elems,rest,n,rfl,rfl,rfl,_,hl,hm,hlen,hel2,_⟩
 ·exact ⟨none,[],0,rfl,Rd.nil _ _ _⟩
 ·rw [hk] at hel2
  obtain ⟨ks,hk1,hk2⟩:=pick_list (fun i (y : α)=>(OkP (fe y).parts1 ∧ (fe y).cl.length = k) ∧ W.cells? 0 (a.add (i * k)) k = some (fe y).cl) len fun i hi=>by
   have h0:=hel2 i hi;rw [List.getElem?_eq_getElem (by omega)] at h0
   cases hc : W.cells? 0 (a.add (i * k)) k with
   | none=>rw [hc] at h0; cases h0
   | some cs =>
    rw [hc] at h0;obtain ⟨y,rfl,h1⟩:=hel _ _ _ h0;exact ⟨y,h1,rfl⟩
  subst hk1;refine ⟨some a,ks,cap,rfl,hl,(by unfold maxLen at hm; omega),fun e=>(by cases e),fun y hy=>?_,fun hpos=>?_⟩
  ·obtain ⟨i,hi,rfl⟩:=List.getElem_of_mem hy
   exact (hk2 i _ (List.getElem?_eq_getElem hi)).1
  have hcell : ∀ i y,ks[i]? = some y → ∀ j v,(fe y).cl[j]? = some v → W.cell? (a.add (i * k + j)) = some v:=fun i y hi j v hj=>by
   obtain ⟨⟨_,hkl⟩,hc⟩:=hk2 i y hi;obtain ⟨_,_,h3⟩:=World.cells?_some hc
   have hjk : j < k:=by
    have:=(List.getElem?_eq_some_iff.1 hj).1
    omega
   have:=h3 j hjk;rw [Addr.add_add,hj] at this;exact this
  have h00:=hk2 0 _ (List.getElem?_eq_getElem hpos);have hb:=World.cells?_block h00.2 hk0;rw [Nat.zero_mul] at hb;obtain ⟨b,o,sp⟩:=a
  have hsp0 : sp = none:=by
   obtain ⟨v,hv⟩ : ∃ v,(fe ks[0]).cl[0]? = some v:=⟨_,List.getElem?_eq_getElem (by rw [h00.1.2]; exact hk0)⟩;have:=hcell 0 _ (List.getElem?_eq_getElem hpos) 0 v hv;rw [Nat.zero_mul,show (⟨b,o,sp⟩ : Addr).add (0 + 0) = ⟨b,o,sp⟩ from rfl,World.cell?] at this
   cases sp with
   | none=>rfl
   | some s =>
    exfalso
    dsimp only at this
    split at this
    ·simp at this
    ·cases this
  subst hsp0;refine ⟨b,o,rfl,hb,fun i y hi j v hj=>?_⟩;have:=hcell i y hi j v hj;rw [Addr.add_mid] at this
  rwa [Nat.add_assoc,Nat.mul_comm k i]
theorem three_of {α : Type} {l : List α} (h : l.length = 3) : ∃ a b c,l = [a,b,c]:=by
 match l,h with
 | [a,b,c],_=>exact ⟨a,b,c,rfl⟩
end Go.Proofs.YtlcbhbahchiofaaGreatDoor
/-
  FROM A WALK TO A LAW'S ROW: certificates, opened; how long what is read may be.
-/
namespace Go.Proofs.YtlcbhbahchiofaaGreatDoor
open Go.RowKit Go.IntWalk
open Go.ChangeShapes Go.WideShapes Go.ChangeAt

theorem bulk_one {H : Type} (d : DataW H) : 1 ≤ Rows.uptoBulk d:=by
 cases d with
 | lit l=>cases l <;> simp [Rows.uptoBulk]
 | _=>simp [Rows.uptoBulk]
theorem bulk_len {H : Type} : ∀ l : List (DataW H),l.length ≤ Rows.uptoBulkAll l
 | []=>Nat.zero_le _
 | d :: l=>by
  have h1:=bulk_one d;have h2:=bulk_len l;simp only [Rows.uptoBulkAll,List.length_cons]
  omega
theorem slice_bulk {H : Type} {enc : TypeId × Value → H} {W : World} {held : Bool} {fuel n c : Nat} {t e : TypeId} {A : Option Addr} {x : DataW H × List MemPlace} (ht : Tryz.prog.underlying t = some (.slice e)) (h : DataW.trod enc Tryz.prog W 0 (fun _=>true) held fuel t [.slice A n c] = some x) : n ≤ Rows.uptoBulk x.1:=by
 rcases DataW.trod_slice ht h with ⟨e,_⟩ | ⟨a,len,cap,elems,rest,m,_,e,rfl,_,_,_,hlen,_⟩
 ·injection e with e
  injection e with _ e
  omega
 ·injection e with e
  injection e with _ e
  have h1:=bulk_len (elems.map (·.1));rw [List.length_map] at h1;simp only [Rows.uptoBulk]
  omega
set_option maxRecDepth 20000 in
theorem int_cells {H : Type} {enc : TypeId × Value → H} {W : World} {held : Bool} (n : Nat) (cs : List Value) (x : DataW H × List MemPlace) (h : DataW.trod enc Tryz.prog W 0 (fun _=>true) held n 3 cs = some x) :
  ∃ i : Int,cs = (eI i).cl ∧ OkP (eI i).parts1 ∧ (eI i).cl.length = 1:=by
 obtain ⟨n0,e0,_⟩:=DataW.trod_int Tryz.underlying3 h;exact ⟨n0,e0,eI_ok _⟩
set_option maxRecDepth 20000 in
theorem sig_cells {H : Type} {enc : TypeId × Value → H} {W : World} {held : Bool} (n : Nat) (cs : List Value) (x : DataW H × List MemPlace) (h : DataW.trod enc Tryz.prog W 0 (fun _=>true) held n 43 cs = some x) :
  ∃ l : List UInt8,cs = (eY 64 l).cl ∧ OkP (eY 64 l).parts1 ∧ (eY 64 l).cl.length = 64:=by
 obtain ⟨xs,m,rfl,_,hlen,hn,hel⟩:=DataW.trod_array Tryz.underlying43 h;rw [cells_w] at hlen
 obtain ⟨l,hl,rfl⟩:=by_of64 hlen (fun i hi=>by
  have h0:=hel i hi;rw [cells8] at h0;obtain ⟨x,hx⟩ : ∃ x,xs[i]? = some x:=⟨xs[i]'(by omega),List.getElem?_eq_getElem (by omega)⟩;rw [hx] at h0;obtain ⟨n,e1,_,hw⟩:=DataW.trod_int Tryz.underlying5 h0;have hb:=bounds_u8 hw
  exact ⟨n,one_of e1,by omega,by omega⟩)
 exact ⟨l,rfl,eY_ok hl⟩
set_option maxRecDepth 20000 in
theorem cert_open {H : Type} {enc : TypeId × Value → H} {W : World} {base : Nat} {v : Value} {d : DataW H} {p : List MemPlace} (hv : Value.okWide Tryz.prog W .any base 26 v) (h : DataW.Trod enc Tryz.prog W 0 (fun _=>true) true 26 v d p) :
  ∃ ci cv,v = (eC ci cv).den ∧ CertF ci cv W ∧ cv.body.length ≤ Rows.uptoBulk d ∧ cv.sg.length ≤ Rows.uptoBulk d:=by
 obtain ⟨cs,rfl,_⟩:=okWide_struct Tryz.underlying26 hv;obtain ⟨fuel,hf⟩:=h;obtain ⟨xs,m,_,hd,hl,hlen,hel⟩:=DataW.trod_struct Tryz.underlying26 hf;have hl3 : cs.toList.length = 3:=hl.trans (by kernel_rfl);obtain ⟨a,b,c,hcs⟩:=three_of hl3;obtain ⟨x0,x1,x2,rfl⟩:=three_of (show xs.length = 3 from hlen)
 injection hd with hd _
 subst hd
 have c0 : Tryz.prog.cellsOf 22 = 1:=by kernel_rfl
 have c1 : Tryz.prog.cellsOf 23 = 1:=by kernel_rfl
 have c2 : Tryz.prog.cellsOf 24 = 1:=by kernel_rfl
 have hcs' : (Value.agg cs).cells.toList = [a,b,c]:=hcs;rw [hcs'] at hel;have h0 : DataW.trod enc Tryz.prog W 0 (fun _=>true) true m 22 (([a,b,c].drop 0).take (Tryz.prog.cellsOf 22)) = some x0:=hel 0 _ rfl;have h1 : DataW.trod enc Tryz.prog W 0 (fun _=>true) true m 23 (([a,b,c].drop 1).take (Tryz.prog.cellsOf 23)) = some x1:=hel 1 _ rfl;have h2 : DataW.trod enc Tryz.prog W 0 (fun _=>true) true m 24 (([a,b,c].drop 2).take (Tryz.prog.cellsOf 24)) = some x2:=hel 2 _ rfl;rw [c0] at h0;rw [c1] at h1;rw [c2] at h2;obtain ⟨A0,l0,k0,e0,hs0⟩:=open_bytes h0;obtain ⟨A1,l1,k1,e1,hs1⟩:=open_rd (fe:=eI) (k:=1) Tryz.underlying23 (by kernel_rfl) (by decide) int_cells h1;obtain ⟨A2,l2,k2,e2,hs2⟩:=open_rd (fe:=eY 64) (k:=64) Tryz.underlying24 (by kernel_rfl) (by decide) sig_cells h2
 injection e0 with e0
 injection e1 with e1
 injection e2 with e2
 subst e0 e1 e2;have b0:=slice_bulk Tryz.underlying22 h0;have b1:=slice_bulk Tryz.underlying23 h1;refine ⟨⟨A0,k0,A1,k1,A2,k2⟩,⟨l0,l1,l2⟩,?_,⟨Rd.of_sl hs0,hs1,hs2⟩,?_,?_⟩
 ·show Value.agg cs = Value.agg _
  congr 1
  apply Array.ext'
  rw [hcs]
  rfl
 ·simp only [Rows.uptoBulk,Rows.uptoBulkAll,List.map_cons]
  show l0.length ≤ _
  omega
 ·simp only [Rows.uptoBulk,Rows.uptoBulkAll,List.map_cons]
  show l1.length ≤ _
  omega
end Go.Proofs.YtlcbhbahchiofaaGreatDoor
