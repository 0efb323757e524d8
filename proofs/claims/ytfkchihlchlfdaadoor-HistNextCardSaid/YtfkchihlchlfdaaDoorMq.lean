import Derived.Test.YtfkchihlchlfdaaDoorMp
import Derived.Test.YtfkchihlchlfdaaDoorMe
open Go.DataW renaming trod->Fh
open List renaming getElem?_eq_getElem->bC,getElem?_append_right->kK,set_append_right->Ba
open Nat renaming le_refl->aF,zero_le->dC
namespace Go.Proofs.YtfkchihlchlfdaaDoor
open Go.RowKit Go.IntWalk Nums
theorem Uj {u : UV} (hu : u.Ok) {s : UInt8} {r : List UInt8} (hs : u.sig = s :: r) : (eO u.parts)[65]? = some (.int .u8 (s.toNat : Int)):=by
 rw [<-Array.getElem?_toList,xX,kK (by rw [b6,hu.id]; decide),b6,hu.id]
 show (By u.key ++ By u.sig)[32]? = _
 rw [kK (by rw [b6,hu.key]; exact aF _),b6,hu.key,hs]
 rfl
theorem So {u : UV} (hu : u.Ok) {s : UInt8} {r : List UInt8} (hs : u.sig = s :: r) (y : UInt8) : (eO ({ u with sig:=y :: r } : UV).parts).toList = (eO u.parts).toList.set 65 (.int .u8 (y.toNat : Int)):=by
 rw [xX,xX,Ba _ _ (by rw [b6,hu.id]; decide),b6,hu.id]
 show _ = By u.id ++ (.int .i64 u.ver :: (By u.key ++ By u.sig).set 32 (.int .u8 (y.toNat : Int)))
 rw [Ba _ _ (by rw [b6,hu.key]; exact aF _),b6,hu.key,hs]
 rfl
set_option maxRecDepth 100000 in
set_option maxHeartbeats 4000000 in
theorem II {A : Option Addr} {c : Nat} (ks : List (List UInt8)) (v : Int) (wr : Bool) : Spec 3 [.slice A ks.length c,.int .i64 v,.bool wr] [] (λw=>Ta w /\ Rd 32 (eY 32) A c ks w) (one (.v (.bool true))):=by
 refine mN [.c (.v (.slice A ks.length c)),.c (.v (.int .i64 v)),.c (.b wr)] 108 Tryd.func3 rfl (by rw [Tryd.ntmps3]; rfl) (EC trivial (sM trivial trivial)) λb=>?_;refine BC (ks.length <= c /\ c <= 9223372036854775807 /\ (A = none -> c = 0)) (λw h _=>⟨h.2.1,h.2.2.1,h.2.2.2.1⟩) λ⟨hkc,hcm,hA⟩=>?_;refine dZ aN rfl ?_;refine fO λK1 hK1=>?_;refine dV aN rfl λK2 hK2=>?_;refine dO [] rfl rfl rfl AD rfl rfl (λ_ _=>rfl) DM (λ_ h _=>h.1) λ_=>?_;refine a5 aN rfl ?_;refine cN (hK2 _ ?_);refine Eb rfl ?_;refine iK (hK1 _ ?_);obtain ⟨l,hl⟩ : ∃ l,l = ks.take (min ks.length 70):=⟨_,rfl⟩
 have hll : l.length = min ks.length 70:=by rw [hl,List.length_take]; omega
 refine dV aN rfl λK3 hK3=>?_;refine tE (.v (.int .i64 ((min ks.length 70 : Nat) : Int))) trivial rfl rfl rfl (P6 rfl rfl rfl) ?_;refine tE (.v (.slice A (min ks.length 70) c)) trivial rfl rfl rfl (zM (sz:=32) rfl (by omega) hA rfl Tryd.underlying22 rfl rfl) ?_;refine a5 aN rfl ?_;refine QK 7 (.v (.slice A l.length c)) rfl (by rw [hll]) ?_
 have hl70 : l.length <= 70:=by omega
 clear hll;refine cN (uB (e':=⟨[(7,.v (.slice A l.length c)),(1,.v (.int .i64 v)),(2,.b wr)],[],[],λw=>Ta w /\ Rd 32 (eY 32) A c l w,λ_=>True⟩) ⟨⟨rfl,rfl,rfl,trivial⟩,trivial,.refl _,λw h _=>⟨h.2.1,by rw [hl]; exact h.2.2.take _⟩,λ_ _=>trivial⟩ (hK3 _ ?_));clear hl hA hkc;refine dV aN rfl λK4 hK4=>?_;refine QI (e:=24) (sz:=32) 0 (eY 32) rfl rfl rfl rfl (dC _) (λw=>by go_simp) λB=>?_;refine a5 aN rfl ?_;refine EI aN 0 l (fe:=eY 32) rfl rfl rfl rfl rfl rfl rfl rfl rfl (lN λw h _=>h.2) (by decide) (by show (0 + _) * 32 <= _; omega) (by show 0 + _ <= _; omega) (dC _) λB1 d1=>?_;rw [List.nil_append];refine a5 aN rfl ?_;refine cN (hK4 _ ?_);have hm:=yQ (seed:=hB 9) (key:=hB2 4 4) v rfl rfl;have hv : (mkH (hB 9) v (hB2 4 4)).ver = v:=rfl;have hk : (mkH (hB 9) v (hB2 4 4)).key = hB2 4 4:=rfl;have hok : (mkH (hB 9) v (hB2 4 4)).Ok:=B6 _ _ rfl;generalize mkH (hB 9) v (hB2 4 4) = u at *;refine dV aN rfl λK5 hK5=>?_;refine lE [(0,.v (.int .u8 9))] 32 (hB 9) rfl rfl rfl rfl rfl rfl rfl ?_;refine a5 aN rfl ?_;refine lE [(0,.v (.int .u8 4)),(1,.v (.int .u8 4))] 32 (hB2 4 4) rfl rfl rfl rfl rfl rfl rfl ?_;refine dO [.agg (By (hB 9)).toArray,.int .i64 v,.agg (By (hB2 4 4)).toArray] rfl rfl rfl rQ rfl rfl (λ_ _=>rfl) hm (λ_ h _=>h.1) λ_=>?_;refine a5 aN rfl ?_;refine cN (hK5 _ ?_);refine fO λK6 hK6=>?_
 have hrest : ∀ u : UV,u.ver = v -> u.key = hB2 4 4 -> u.Ok -> ∀ e,Jh e ⟨[(7,.v (.slice A l.length c)),(1,.v (.int .i64 v)),(8,.v (.slice B1 l.length d1)),(9,.a 9 0)],[⟨9,none,27,u.parts⟩],[gZ 0 24 32 (eY 32) B1 d1 l],λw=>Ta w /\ Rd 32 (eY 32) A c l w,λ_=>True⟩ -> kS b K6 108 e:=by
  intro u hv hk hok e hw
  refine uB hw (hK6 _ ?_);obtain ⟨kk,hkk⟩ : ∃ kk,nxK l u = kk:=⟨_,rfl⟩;obtain ⟨ee,hee⟩ : ∃ ee,nxE l u = ee:=⟨_,rfl⟩
  have hE : ee = if jS u = true then (if v = (l.length : Int) + 1 then 0 else 111) else 110:=by rw [<-hee,<-hv]; rfl
  have hKK : kk = if ee = 0 then l ++ [hB2 4 4] else []:=by rw [<-hkk,<-hee,<-hk]; rfl
  have hsB : jS u = (decide (1 <= v /\ v <= 64) && kO u.id u.sig (msg 1 (iI v (hB2 4 4)))):=by rw [<-hv,<-hk]; rfl
  have hnx:=vN (A:=A) (c:=c) hee hkk hok (by omega);generalize jS u = sb at *;refine dV aN rfl λK7 hK7=>?_;refine dO [.slice A l.length c,(eU u).den] rfl rfl rfl pG rfl rfl (λ_ _=>rfl) hnx (λ_ h _=>h) λ⟨X,d⟩=>?_;refine a5 aN rfl ?_;refine cN (hK7 _ ?_);have h9:=λA c=>uD (A:=A) (c:=c) l;have h10:=λA c=>BD (A:=A) (c:=c) l;have l9 : (rA l).length = 32:=oC _;generalize rA l = va at *;refine fO λK8 hK8=>?_;refine dV aN rfl λK9 hK9=>?_;refine QL (own:=[]) (R':=[gZ 0 24 32 (eY 32) B1 d1 l]) (λ_=>[.slice A l.length c,.slice B1 l.length d1]) rfl rfl rfl Ay rfl rfl (λ_ _=>rfl) (λ_ w=>Rd 32 (eY 32) A c l w /\ Rd 32 (eY 32) B1 d1 l w) (λ_=>Dd l) (λG S w h=>⟨h.fact.2.2,BJ 0 rfl G S w h⟩) λ_=>?_;refine l_R [gZ 0 24 32 (eY 32) B1 d1 l] rfl ?_;refine a5 aN rfl ?_;refine dO [.slice A l.length c] rfl rfl rfl pV rfl rfl (λ_ _=>rfl) (h9 A c) (λ_ h _=>h.2) λ_=>?_;refine a5 aN rfl ?_;refine dO [.slice A l.length c] rfl rfl rfl sP rfl rfl (λ_ _=>rfl) (h10 A c) (λ_ h _=>h.2.2.2) λ_=>?_;refine a5 aN rfl ?_;refine tE (.b (!decide (va = va))) trivial rfl rfl rfl (yC rfl rfl rfl Tryd.underlying24 (by kernel_rfl) l9 l9) ?_;refine a5 aN rfl ?_;refine qK 49 false rfl (by simp) ?_;refine cN (uB (e':=⟨[(49,.v (.bool false)),(7,.v (.slice A l.length c)),(1,.v (.int .i64 v)),(8,.v (.slice B1 l.length d1)),(10,.v (.slice X kk.length d)),(11,.v (.int .i64 (ee : Int))),(9,.a 9 0)],[⟨9,none,27,u.parts⟩],[gZ 0 24 32 (eY 32) B1 d1 l],λw=>Ta w /\ Rd 32 (eY 32) X d kk w,λ_=>True⟩) ⟨⟨rfl,rfl,rfl,rfl,rfl,rfl,rfl,trivial⟩,⟨rfl,rfl,trivial⟩,.refl _,λw h _=>⟨h.2.2.2.1,h.2.2.1⟩,λ_ _=>trivial⟩ (hK9 _ ?_));refine Eb rfl ?_;refine iK (hK8 _ ?_);clear hnx h9 h10 l9;refine fO λK10 hK10=>?_;refine jZ ?_;refine fO λK11 hK11=>?_
  have hsw : ∀ e,Jh e ⟨[(50,.b (!sb)),(7,.v (.slice A l.length c)),(1,.v (.int .i64 v)),(8,.v (.slice B1 l.length d1)),(10,.v (.slice X kk.length d)),(11,.v (.int .i64 (ee : Int))),(9,.a 9 0)],[⟨9,none,27,u.parts⟩],[gZ 0 24 32 (eY 32) B1 d1 l],λw=>Ta w /\ Rd 32 (eY 32) X d kk w,λ_=>True⟩ -> kS b K11 108 e:=by
   intro e hw
   refine uB hw (hK11 _ ?_);refine P2 (!sb) rfl (λh=>?_) (λh=>?_)
   ·have e1 : ee = 110:=by rw [hE,if_neg (by simpa using h)]
    have e2 : kk = []:=by rw [hKK,if_neg (by omega)]
    subst e1;subst e2;refine dV aN rfl λK12 hK12=>?_;refine qK 72 true rfl rfl ?_;refine a5 aN rfl ?_;refine qK 6 true rfl rfl ?_;refine cN (hK12 _ ?_);exact lU (Od 0 rfl (mS aN () rfl (by decide) rfl rfl rfl (λ_ _ _=>trivial) (λ_ _=>trivial)))
   have hst : sb = true:=by simpa using h
   refine dV aN rfl λK12 hK12=>?_;refine cN (hK12 _ ?_);have hw1 : IntKind.i64.wrap ((l.length : Int) + 1) = (l.length : Int) + 1:=pK rfl (by omega) (by omega);refine s9 (v ≠ IntKind.i64.wrap ((l.length : Int) + 1)) rfl (λh=>?_) (λh=>?_)
   ·have e1 : ee = 111:=by rw [hE,if_pos hst,if_neg (by rw [hw1] at h; exact h)]
    have e2 : kk = []:=by rw [hKK,if_neg (by omega)]
    subst e1;subst e2;refine dV aN rfl λK13 hK13=>?_;refine qK 85 true rfl rfl ?_;refine a5 aN rfl ?_;refine qK 6 true rfl rfl ?_;refine cN (hK13 _ ?_);exact lU (Od 0 rfl (mS aN () rfl (by decide) rfl rfl rfl (λ_ _ _=>trivial) (λ_ _=>trivial)))
   have e1 : ee = 0:=by rw [hE,if_pos hst,if_pos (by rw [hw1] at h; exact Decidable.of_not_not h)]
   subst e1
   have e2 : kk = l ++ [hB2 4 4]:=by rw [hKK,if_pos rfl]
   refine iK ?_;refine hK10 _ ?_;have h9:=λA c=>uD (A:=A) (c:=c) kk;have h10:=λA c=>BD (A:=A) (c:=c) kk;have l9 : (rA kk).length = 32:=oC _;generalize rA kk = vb at *;have h11:=λA A2 c c2=>Dd (A:=A) (A2:=A2) (c:=c) (c2:=c2) kk;refine dV aN rfl λK14 hK14=>?_;refine qK 92 true rfl rfl ?_;refine a5 aN rfl ?_;refine p9 aN 0 [u.key] (fe:=eY 32) rfl rfl rfl rfl rfl (λ_=>rfl) rfl (by decide) (by decide) (NG λl hl=>by rw [List.mem_singleton.1 hl]; exact hok.key) (dC _) λB2=>?_;refine rC 0 rfl ?_;refine a5 aN rfl ?_;refine EI aN 0 [u.key] (fe:=eY 32) rfl rfl rfl rfl rfl rfl rfl rfl rfl (lN λw h _=>h.1) (by decide) (by show (_ + 1) * 32 <= _; omega) (by show _ + 1 <= _; omega) (dC _) λB3 d3=>?_;rw [hk,<-e2];refine rC 0 rfl ?_;refine a5 aN rfl ?_;refine dO [.slice X kk.length d,.slice B3 kk.length d3] rfl rfl rfl Ay rfl rfl (λ_ _=>rfl) (h11 X B3 d d3) (λ_ h _=>⟨h.2.2.2,h.1⟩) λ_=>?_;refine a5 aN rfl ?_;refine dO [.slice X kk.length d] rfl rfl rfl pV rfl rfl (λ_ _=>rfl) (h9 X d) (λ_ h _=>h.2.2.2) λ_=>?_;refine a5 aN rfl ?_;refine dO [.slice X kk.length d] rfl rfl rfl sP rfl rfl (λ_ _=>rfl) (h10 X d) (λ_ h _=>h.2.2.2.2.2) λ_=>?_;refine a5 aN rfl ?_;refine tE (.b (decide (vb = vb))) trivial rfl rfl rfl (Ei rfl rfl rfl Tryd.underlying24 (by kernel_rfl) l9 l9) ?_;refine a5 aN rfl ?_;refine qK 6 true rfl (by simp) ?_;refine cN (hK14 _ ?_);exact lU (mS aN () rfl (by decide) rfl rfl rfl (λ_ _ _=>trivial) (λ_ _=>trivial))
  refine H9 19 (by decide) (by kernel_rfl) (by kernel_rfl) λG S w0 hst=>?_;refine gV aN hst rfl ?_
  by_cases h1 : v < 1
  ·have e1 : sb = false:=by rw [hsB,decide_eq_false (λh=>by omega),Bool.false_and]
   refine CT 53 true rfl (decide_eq_true h1) ?_;refine gV aN hst rfl ?_;refine uE hst ?_;refine a5 aN rfl ?_;refine UY 50 (.b (!sb)) rfl (λ_=>by rw [e1]; rfl) trivial ?_;exact cN (hsw _ ⟨⟨rfl,rfl,rfl,rfl,rfl,rfl,rfl,trivial⟩,⟨rfl,rfl,trivial⟩,.refl _,λ_ h _=>h,λ_ h=>h⟩)
  refine CT 53 false rfl (decide_eq_false h1) ?_;refine gV aN hst rfl ?_
  by_cases h2 : v > 64
  ·have e1 : sb = false:=by rw [hsB,decide_eq_false (λh=>by omega),Bool.false_and]
   refine CT 57 true rfl (decide_eq_true h2) ?_;refine gV aN hst rfl ?_;refine uE hst ?_;refine a5 aN rfl ?_;refine UY 50 (.b (!sb)) rfl (λ_=>by rw [e1]; rfl) trivial ?_;exact cN (hsw _ ⟨⟨rfl,rfl,rfl,rfl,rfl,rfl,rfl,trivial⟩,⟨rfl,rfl,trivial⟩,.refl _,λ_ h _=>h,λ_ h=>h⟩)
  have e1 : sb = kO u.id u.sig (msg 1 (iI v (hB2 4 4))):=by rw [hsB,decide_eq_true (by omega),Bool.true_and]
  refine CT 57 false rfl (decide_eq_false h2) ?_;refine gV aN hst rfl ?_;refine qU (F':=λ_=>True) hst [.int .i64 v,.agg (By (hB2 4 4)).toArray] rfl rfl rfl rfl Az rfl rfl (λ_=>by rw [<-hv,<-hk]; rfl) (JR v rfl) (λ_ _ _=>trivial) λx _=>?_;refine gV aN hst rfl ?_;have hos:=λA c=>Ep (A:=A) (c:=c) (b:=iI v (hB2 4 4)) 1 hok.id hok.sig (by rw [sC rfl]; decide);rw [<-e1] at hos;refine qU (F':=λw=>Ta w /\ Rd 1 eB x.1 x.2 (iI v (hB2 4 4)) w) hst [.agg (By u.id).toArray,.int .u8 1,.slice x.1 (iI v (hB2 4 4)).length x.2,.agg (By u.sig).toArray] rfl rfl rfl rfl zS rfl rfl (λ_=>rfl) (hos x.1 x.2) (λw hw hx=>⟨hw.fact.1,Fu (hx 13 _ rfl (by kernel_rfl))⟩) λ_ _=>?_;refine gV aN hst rfl ?_;refine uE hst ?_;refine a5 aN rfl ?_;exact cN (hsw _ ⟨⟨rfl,rfl,rfl,rfl,rfl,rfl,rfl,trivial⟩,⟨rfl,rfl,trivial⟩,.refl _,λ_ h _=>h,λ_ h=>h⟩)
 refine dZ aN rfl ?_;refine P2 wr rfl (λ_=>?_) (λ_=>?_)
 ·obtain ⟨s,r,hsr⟩ : ∃ s r,u.sig = s :: r:=by
   cases h : u.sig with
   | nil=>have:=hok.sig; rw [h] at this; cases this
   | cons s r=>exact ⟨s,r,rfl⟩
  obtain ⟨y,hy⟩:=Sl s;have hok2 : ({ u with sig:=y :: r } : UV).Ok:=⟨hok.id,hok.key,by have:=hok.sig; rw [hsr] at this; exact this⟩;refine FI ?_;refine a5 aN rfl ?_;refine tE (.a 9 (65 + 1 * 0)) trivial rfl rfl rfl (FP 0 rfl Tryd.underlying25 rfl rfl rfl (by decide)) ?_;refine UU (.v (.int .u8 (s.toNat : Int))) trivial rfl rfl rfl (MV _ rfl rfl rfl (Uj hok hsr) Tryd.underlying5 rfl) ?_;refine tE (.v (.int .u8 (bits .xor .u8 (s.toNat : Int) 1))) trivial rfl rfl rfl (P4 rfl rfl rfl) ?_;refine oZ 30 (y.toNat : Int) rfl hy ?_;refine a5 aN rfl ?_;refine tE (.a 9 (65 + 1 * 0)) trivial rfl rfl rfl (FP 0 rfl Tryd.underlying25 rfl rfl rfl (by decide)) ?_;refine UT ({ u with sig:=y :: r } : UV).parts rfl rfl rfl rfl rfl rfl rfl rfl rfl (by rw [OkP.size hok.rP]; show _ < 129; decide) hok2.rP (So hok hsr y) ?_;exact cN (hrest ⟨u.id,u.ver,u.key,y :: r⟩ hv hk hok2 _ ⟨⟨rfl,rfl,rfl,rfl,trivial⟩,⟨rfl,rfl,trivial⟩,.refl _,λ_ h _=>h.2,λ_ _=>trivial⟩)
 ·exact iK (hrest u hv hk hok _ ⟨⟨rfl,rfl,rfl,rfl,trivial⟩,⟨rfl,rfl,trivial⟩,.refl _,λ_ h _=>h.2,λ_ _=>trivial⟩)
end Go.Proofs.YtfkchihlchlfdaaDoor
namespace Go.Proofs.YtfkchihlchlfdaaDoor
open Go.RowKit Go.IntWalk
open Go.ChangeShapes Go.WideShapes Go.ChangeAt
set_option maxRecDepth 20000 in
theorem IJ {H : Type} {enc : TypeId × Value -> H} {W : World} {held : Bool} {fuel : Nat} {cs : List Value} {x : DataW H × List MemPlace} (h : Fh enc Tryd.prog W 0 (λ_=>true) held fuel 24 cs = some x) :
  ∃ l : List UInt8,l.length = 32 /\ cs = By l:=by
 obtain ⟨xs,m,rfl,_,hlen,hn,hel⟩:=DataW.trod_array Tryd.underlying24 h;rw [Rh] at hlen
 exact Vu hlen (λi hi=>by
  have h0:=hel i hi;rw [TZ] at h0;obtain ⟨x,hx⟩ : ∃ x,xs[i]? = some x:=⟨xs[i]'(by omega),bC (by omega)⟩;rw [hx] at h0;obtain ⟨n,e1,_,hw⟩:=DataW.trod_int Tryd.underlying5 h0;have hb:=bounds_u8 hw
  exact ⟨n,NF e1,by omega,by omega⟩)
theorem Dg {α : Type} (P : Nat -> α -> Prop) : ∀ n,(∀ i,i < n -> ∃ l,P i l) -> ∃ ks : List α,ks.length = n /\ ∀ i l,ks[i]? = some l -> P i l
 | 0,_=>⟨[],rfl,λi l h=>by simp at h⟩
 | n + 1,h=>by
  obtain ⟨ks,hl,hk⟩:=Dg P n λi hi=>h i (by omega);obtain ⟨l,hp⟩:=h n (by omega);refine ⟨ks ++ [l],by simp [hl],λi x hx=>?_⟩
  by_cases hi : i < ks.length
  ·rw [List.getElem?_append_left hi] at hx
   exact hk i x hx
  ·rw [kK (by omega)] at hx
   have h0 : i - ks.length = 0:=by
    by_cases e : i - ks.length = 0
    ·exact e
    ·rw [List.getElem?_eq_none (by simp; omega)] at hx
     cases hx
   rw [h0] at hx
   obtain rfl : l = x:=by simpa using hx
   obtain rfl : i = n:=by omega
   exact hp
set_option maxRecDepth 20000 in
theorem Qt {α H : Type} {enc : TypeId × Value -> H} {W : World} {held : Bool} {fuel : Nat} {t e : TypeId} {k : Nat} {fe : α -> SQ} {cs : List Value} {x : DataW H × List MemPlace} (ht : Tryd.prog.underlying t = some (.slice e)) (hk : Tryd.prog.cellsOf e = k) (hk0 : 0 < k)
  (hel : ∀ n cs x,Fh enc Tryd.prog W 0 (λ_=>true) held n e cs = some x -> ∃ a : α,cs = (fe a).cl /\ OkP (fe a).j6 /\ (fe a).cl.length = k)
  (h : Fh enc Tryd.prog W 0 (λ_=>true) held fuel t cs = some x) :
  ∃ (A : Option Addr) (l : List α) (c : Nat),cs = [.slice A l.length c] /\ Rd k fe A c l W:=by
 rcases DataW.trod_slice ht h with ⟨rfl,_⟩ | ⟨a,len,cap,elems,rest,n,rfl,rfl,rfl,_,hl,hm,hlen,hel2,_⟩
 ·exact ⟨none,[],0,rfl,Rd.nil _ _ _⟩
 ·rw [hk] at hel2
  obtain ⟨ks,hk1,hk2⟩:=Dg (λi (y : α)=>(OkP (fe y).j6 /\ (fe y).cl.length = k) /\ W.cells? 0 (a.add (i * k)) k = some (fe y).cl) len λi hi=>by
   have h0:=hel2 i hi;rw [bC (by omega)] at h0
   cases hc : W.cells? 0 (a.add (i * k)) k with
   | none=>rw [hc] at h0; cases h0
   | some cs =>
    rw [hc] at h0;obtain ⟨y,rfl,h1⟩:=hel _ _ _ h0;exact ⟨y,h1,rfl⟩
  subst hk1;refine ⟨some a,ks,cap,rfl,hl,(by unfold maxLen at hm; omega),λe=>(by cases e),λy hy=>?_,λhpos=>?_⟩
  ·obtain ⟨i,hi,rfl⟩:=List.getElem_of_mem hy
   exact (hk2 i _ (bC hi)).1
  have hcell : ∀ i y,ks[i]? = some y -> ∀ j v,(fe y).cl[j]? = some v -> W.cell? (a.add (i * k + j)) = some v:=λi y hi j v hj=>by
   obtain ⟨⟨_,hkl⟩,hc⟩:=hk2 i y hi;obtain ⟨_,_,h3⟩:=World.cells?_some hc
   have hjk : j < k:=by
    have:=(List.getElem?_eq_some_iff.1 hj).1
    omega
   have:=h3 j hjk;rw [Addr.add_add,hj] at this;exact this
  have h00:=hk2 0 _ (bC hpos);have hb:=World.cells?_block h00.2 hk0;rw [Nat.zero_mul] at hb;obtain ⟨b,o,sp⟩:=a
  have hsp0 : sp = none:=by
   obtain ⟨v,hv⟩ : ∃ v,(fe ks[0]).cl[0]? = some v:=⟨_,bC (by rw [h00.1.2]; exact hk0)⟩;have:=hcell 0 _ (bC hpos) 0 v hv;rw [Nat.zero_mul,show (⟨b,o,sp⟩ : Addr).add (0 + 0) = ⟨b,o,sp⟩ from rfl,World.cell?] at this
   cases sp with
   | none=>rfl
   | some s =>
    exfalso
    dsimp only at this
    split at this
    ·simp at this
    ·cases this
  subst hsp0;refine ⟨b,o,rfl,hb,λi y hi j v hj=>?_⟩;have:=hcell i y hi j v hj;rw [Addr.add_mid] at this
  rwa [Nat.add_assoc,Nat.mul_comm k i]
theorem GM {H : Type} {enc : TypeId × Value -> H} {W : World} {held : Bool} (n : Nat) (cs : List Value) (x : DataW H × List MemPlace) (h : Fh enc Tryd.prog W 0 (λ_=>true) held n 24 cs = some x) :
  ∃ l : List UInt8,cs = (eY 32 l).cl /\ OkP (eY 32 l).j6 /\ (eY 32 l).cl.length = 32:=by
 obtain ⟨l,hl,rfl⟩:=IJ h;exact ⟨l,rfl,mU hl⟩
end Go.Proofs.YtfkchihlchlfdaaDoor
