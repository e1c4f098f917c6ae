/-
  Texts that the statements lean on, one behind the other.
-/
import Derived.Test.YtkelafkbmnjpeaaGreatMG37
import Derived.Test.YtkelafkbmnjpeaaGreatMG24
import Derived.Test.YtkelafkbmnjpeaaGreatMG32
import Derived.Test.YtkelafkbmnjpeaaGreatMG20
import Derived.Test.YtkelafkbmnjpeaaGreatMG08
import Derived.Test.YtkelafkbmnjpeaaGreatMG11
import Derived.Deep.SlicePairs
import Derived.Test.YtkelafkbmnjpeaaGreatMG18
import Derived.Test.YtkelafkbmnjpeaaGreatMG10
import Derived.Test.YtkelafkbmnjpeaaGreatMG33
import Derived.Test.YtkelafkbmnjpeaaGreatMG25
import Derived.Test.YtkelafkbmnjpeaaGreatMG30
import Derived.OwnWalkIn
import Derived.TacticsInMore
import Derived.LoopNIn
import Derived.LoopIn
set_option linter.unusedSimpArgs false
set_option linter.unusedVariables false
namespace Go.Proofs.YtkelafkbmnjpeaaGreat
open Go.RowKit
structure TL (T N Z:Nat) (L:Lg) (rs:Int→List Rc):Prop where
 live:Live L.dk
 fi:FI L.dk
 r:LgR L
 lim:L.limit≤65599
 ok:LOk T 65599 L.dk
 few:L.dk.names.length≤N
 segsN:L.man.segs.length≤Z
 segs:∀ n∈L.man.segs,vw L.dk (nmS n)=some (segB n (rs n))∧∀ r∈rs n,Zq r
 top:∀ n∈L.man.segs,n≤L.last
section
variable {T N Z T' N' Z' k:Nat} {L L':Lg} {rs:Int→List Rc} {X:Nm→Prop}
theorem TL.mono (h:TL T N Z L rs) (hT:T≤T') (hN:N≤N') (hZ:Z≤Z'):TL T' N' Z' L rs:=⟨h.live,h.fi,h.r,h.lim,h.ok.mono hT (Nat.le_refl _),Nat.le_trans h.few hN,Nat.le_trans h.segsN hZ,h.segs,h.top⟩
theorem TL.new {n:Int} (hn:64≤n∧n≤65599):TL 0 0 0 (LG0 n) fun _=>[] :=
 ⟨⟨by kernel_rfl,Zlk (show (LG0 n).dk.cut=-1 by kernel_rfl)⟩,FI.new _,(LW.new (by omega)).r,hn.2,LOk.new _,Nat.le_refl 0,Nat.le_refl 0,fun n hn=>(by cases hn),fun n hn=>(by cases hn)⟩
theorem TL.after (h:TL T N Z L rs) (hk:Kp L.dk L'.dk X k) (hX:∀ n∈L'.man.segs,¬ X (nmS n)) (hr:LgR L') (hlim:L'.limit=L.limit) (ok:LOk T' 65599 L'.dk) (hs:∀ n∈L'.man.segs,n∈L.man.segs) (hz:L'.man.segs.length≤L.man.segs.length) (hl:L'.last=L.last):TL T' (N+k) Z L' rs:=by
 refine ⟨hk.live,hk.fi,hr,by rw [hlim];exact h.lim,ok,by have:=hk.few;have:=h.few;omega,Nat.le_trans hz h.segsN,fun n hn=>?_,fun n hn=>by rw [hl];exact h.top n (hs n hn)⟩
 rw [hk.same _ (hX n hn)]
 exact h.segs n (hs n hn)
theorem TL.sync (h:TL T N Z L rs):TL T N Z (Z5 L).1 rs:=by
 obtain ⟨k1,k2,k3⟩:=Zb7 L
 have hk:Kp L.dk (Z5 L).1.dk (fun _=>False) 0:=by
  unfold Z5
  split
  ·exact Kp.refl h.live h.fi _
  ·exact Zln h.live h.fi _
 exact h.after hk (fun _ _ e=>e) h.r.sync k3 h.ok.lsync (fun n hn=>by rw [k1] at hn;exact hn) (by rw [k1];exact Nat.le_refl _) k2
theorem TL.fail (h:TL T N Z L rs) {x:Int} (hx:x≤9223372036854775807):TL T N Z (L.on (L.dk.setFail x)) rs :=
 h.after (L':=L.on (L.dk.setFail x)) (Zu4 h.live h.fi x) (fun _ _ e=>e) (h.r.on _) rfl (h.ok.fails x hx) (fun n hn=>hn) (Nat.le_refl _) rfl
theorem TL.roll (h:TL T N Z L rs):∃ rs',TL (T+6) (N+3) (Z+1) (rollP L).1 rs'∧(rollP L).1.limit=L.limit∧(∀ n∈L.man.segs,n∈(rollP L).1.man.segs∧rs' n=rs n)∧L.last≤(rollP L).1.last ∧
 ((rollP L).2=0→(rollP L).1.last∈(rollP L).1.man.segs∧rs' (rollP L).1.last=[]):=by
 have hR:=h.r.roll
 have hO:=h.ok.roll (by omega) h.r.lasts
 have hs:=h.sync
 obtain ⟨k1,k2,k3⟩:=Zb7 L
 unfold rollP at hR hO ⊢
 by_cases h0:(Z5 L).2=0
 rotate_left 1
 ·rw [if_neg h0]
  exact ⟨rs,hs.mono (by omega) (by omega) (by omega),k3,fun n hn=>⟨by rw [k1];exact hn,rfl⟩,by rw [k2];exact Int.le_refl _,fun e=>absurd e h0⟩
 rw [if_pos h0] at hR hO ⊢
 by_cases h1:99999999≤lnumP (Z5 L).1∨1000≤L.man.segs.length
 ·rw [if_pos h1]
  exact ⟨rs,hs.mono (by omega) (by omega) (by omega),k3,fun n hn=>⟨by rw [k1];exact hn,rfl⟩,by rw [k2];exact Int.le_refl _,fun e=>(by cases e)⟩
 rw [if_neg h1] at hR hO ⊢
 have hge:=Zop (Z5 L).1
 obtain ⟨x,hx⟩:∃ x,lnumP (Z5 L).1=x:=⟨_,rfl⟩
 rw [hx] at hR hO hge h1 ⊢
 obtain ⟨L1,hL1⟩:∃ y,(Z5 L).1=y:=⟨_,rfl⟩
 rw [hL1] at hs hR hO hge k1 k2 k3 ⊢
 simp only [not_or,Int.not_le] at h1
 have hri:=Ym.1 hs.r.man
 have hnx:0≤x∧x≤99999999:=by omega
 have hlow:∀ n∈L1.man.segs,n < x:=fun n hn=>by have:=hri.2.2.1 n hn;omega
 have hsn:∀ n∈L1.man.segs,nmS n≠nmS x:=fun n hn e=>by have:=Zip (hs.r.seg hn) e;have:=hlow n hn;omega
 have hTM:∀ n,¬ (nmS n=nmT∨nmS n=nmM):=fun n e=>e.elim S_T S_M
 obtain ⟨m1,m2⟩:=Zu5 hs.live hs.fi x
 -- what is left where all stays
 have stay:∀ (L':Lg) (k:Nat),k≤3→LgR L'→LOk (T+6) 65599 L'.dk→Kp L1.dk L'.dk (fun y=>y=nmS x∨y=nmT∨y=nmM) k→L'.limit=L1.limit→L'.man.segs=L1.man.segs→L'.last=L1.last→∃ rs',TL (T+6) (N+3) (Z+1) L' rs'∧L'.limit=L.limit∧(∀ n∈L.man.segs,n∈L'.man.segs∧rs' n=rs n)∧L.last≤L'.last:=fun L' k hk r ok kp e1 e2 e3=>by
  refine ⟨rs,(hs.after kp (fun n hn e=>?_) r e1 ok (fun n hn=>by rw [e2] at hn;exact hn) (by rw [e2];exact Nat.le_refl _) e3).mono (Nat.le_refl _) (by omega) (by omega),by rw [e1,k3],fun n hn=>⟨by rw [e2,k1];exact hn,rfl⟩,by rw [e3,k2];exact Int.le_refl _⟩
  rw [e2] at hn
  exact e.elim (hsn n hn) (hTM n)
 unfold rollA at hR hO ⊢
 by_cases hm:(makeP (L1.next (x+1)).dk x).2=0
 rotate_left 1
 ·rw [if_neg hm] at hR hO ⊢
  obtain ⟨rs',a1,a2,a3,a4⟩:=stay _ 1 (by omega) hR hO (m1.wider (fun _ e=>.inl e) (Nat.le_refl _)) rfl rfl rfl
  exact ⟨rs',a1,a2,a3,a4,fun e=>absurd e hm⟩
 rw [if_pos hm] at hR hO ⊢
 obtain ⟨M,hM⟩:∃ M,(L1.next (x+1)).on (makeP (L1.next (x+1)).dk x).1=M:=⟨_,rfl⟩
 have q1:M.man=⟨L1.man.segs,x+1⟩:=by rw [←hM];rfl
 have q2:M.last=L1.last:=by rw [←hM];rfl
 have q3:M.limit=L1.limit:=by rw [←hM];rfl
 have q4:Kp L1.dk M.dk (fun y=>y=nmS x) 1:=by rw [←hM];exact m1
 have q5:vw M.dk (nmS x)=some (segB x []):=by rw [←hM];exact m2 hm
 rw [hM] at hR hO ⊢
 clear hM m1 m2 hm
 obtain ⟨f1,f2,f3,f4⟩:=Zaa M (M.man.segs++[x])
 have hsv:Kp M.dk (Z6 M (M.man.segs++[x])).1.dk (fun n=>n=nmT∨n=nmM) 1:=by
  have:=Zrm q4.live q4.fi ⟨M.man.segs++[x],M.man.next⟩
  unfold Z6
  split <;> exact this
 unfold rollB at hR hO ⊢
 by_cases hv:(Z6 M (M.man.segs++[x])).2=0
 rotate_left 1
 ·rw [if_neg hv] at hR hO ⊢
  have kp:=(q4.wider (Y:=fun y=>y=nmS x∨y=nmT∨y=nmM) (fun _ e=>.inl e) (Nat.le_refl _)).trans (hsv.wider (Y:=fun y=>y=nmS x∨y=nmT∨y=nmM) (fun _ e=>.inr e) (Nat.le_refl _))
  obtain ⟨rs',a1,a2,a3,a4⟩:=stay _ 2 (by omega) hR hO kp (by rw [f2,q3]) (by rw [f4 hv,q1]) (by rw [f1,q2])
  exact ⟨rs',a1,a2,a3,a4,fun e=>absurd e hv⟩
 rw [if_pos hv] at hR hO ⊢
 have hman:=f3 hv
 obtain ⟨V,hV⟩:∃ V,(Z6 M (M.man.segs++[x])).1=V:=⟨_,rfl⟩
 rw [hV] at hR hO hman hsv f1 f2 ⊢
 rw [q1] at hman
 dsimp only at hR hO ⊢
 have hw:Kp V.dk (rollC V x).dk (fun y=>y=nmH V.last) 1:=by
  unfold rollC
  dsimp only
  split
  ·exact (Kp.refl hsv.live hsv.fi _).wider (fun _ e=>e) (by omega)
  ·exact Zts hsv.live hsv.fi _
 have c1:(rollC V x).man=V.man∧(rollC V x).last=x∧(rollC V x).limit=V.limit:=by
  unfold rollC
  split <;> exact ⟨rfl,rfl,rfl⟩
 have hH:∀ n,0≤n∧n≤99999999→nmS n≠nmH V.last:=fun n hn=>S_H hn
 have hsegs:(rollC V x).man.segs=L1.man.segs++[x]:=by rw [c1.1,hman]
 refine ⟨fun n=>if n=x then [] else rs n,⟨hw.live,hw.fi,hR,by rw [c1.2.2,f2,q3];exact hs.lim,hO,?_,?_,fun n hn=>?_,fun n hn=>?_⟩,by rw [c1.2.2,f2,q3,k3],fun n hn=>?_,?_,fun _=>?_⟩
 ·have:=hw.few;have:=hsv.few;have:=q4.few;have:=hs.few;omega
 ·rw [hsegs,List.length_append,List.length_singleton]
  have:=hs.segsN
  omega
 ·rw [hsegs] at hn
  rcases List.mem_append.1 hn with hn | hn
  ·have hnr:=hs.r.seg hn
   rw [hw.same _ (hH n hnr),hsv.same _ (hTM n),q4.same _ (hsn n hn),if_neg (by have:=hlow n hn;omega)]
   exact hs.segs n hn
  ·rw [List.mem_singleton.1 hn,if_pos rfl,hw.same _ (hH x hnx),hsv.same _ (hTM x)]
   exact ⟨q5,fun r hr=>(by cases hr)⟩
 ·rw [c1.2.1]
  rw [hsegs] at hn
  rcases List.mem_append.1 hn with hn | hn
  ·have:=hlow n hn;omega
  ·have:=List.mem_singleton.1 hn;omega
 ·rw [hsegs]
  rw [←k1] at hn
  exact ⟨List.mem_append_left _ hn,if_neg (by have:=hlow n hn;omega)⟩
 ·rw [c1.2.1,←k2]
  rcases hs.r.last with e | e
  ·omega
  ·have:=hlow _ e;omega
 ·rw [c1.2.1,hsegs]
  exact ⟨List.mem_append_right _ (List.mem_singleton.2 rfl),if_pos rfl⟩
structure Put (L':Lg) (rs':Int→List Rc) (v:Int×Int×Int×Int) (r:Rc) (limit:Int):Prop where
 right:Zq r
 seg:v.1=L'.last∧L'.last∈L'.man.segs
 at_:∃ us,rs' L'.last=us++[r]∧v.2.1=((13+(Zax us).length:Nat):Int)
 fits:v.2.1=13∨v.2.1+v.2.2.1≤limit
 size:0≤v.2.1∧v.2.1≤65599∧0≤v.2.2.1∧v.2.2.1≤8200
theorem TL.adds (h:TL T N Z L rs) (hl:L.last∈L.man.segs) (r:Rc) (hf:((segB L.last (rs L.last)).length:Int)≤13∨((segB L.last (rs L.last)).length:Int)+(frS r).length≤L.limit) :
 ∃ rs',TL T N Z (addLP L r).1 rs'∧(∀ n∈L.man.segs,∃ more,rs' n=rs n++more)∧((addLP L r).2.2.2.2=0→Put (addLP L r).1 rs' (addLP L r).2 r L.limit):=by
 obtain ⟨a1,a2,a3,a4⟩:=Ju L r
 have hR:=h.r.adds r
 obtain ⟨q1,q2⟩:=h.segs _ hl
 obtain ⟨k1,k2⟩:=Zvr h.live h.fi L.last r q1
 have hlr:=h.r.seg hl
 have hfs:=Zc4 r
 have hlim:=h.lim
 have hlen:(segB L.last (rs L.last)).length=13+(Zax (rs L.last)).length:=J9 _ _
 have hO:LOk T 65599 (addP L.dk L.last r).1:=by
  unfold addP
  split
  ·have hz:(L.dk.size (nmS L.last)).1=((segB L.last (rs L.last)).length:Int):=by rw [Zik,q1]
   have:=h.ok.append (S':=65599) (nmS L.last) (frS r) (Nat.le_refl _) (fun _=>by omega) (by omega)
   split <;> exact this
  ·exact h.ok
 rcases k2 with ⟨e0,hr,ev,hv⟩ | ⟨e0,hv⟩
 ·have e2:(addLP L r).2=(L.last,((segB L.last (rs L.last)).length:Int),((frS r).length:Int),0):=by
   unfold addLP
   rw [if_pos e0,ev]
  refine ⟨fun n=>if n=L.last then rs n++[r] else rs n,⟨by rw [a4];exact k1.live,by rw [a4];exact k1.fi,hR,by rw [a3];exact h.lim,by rw [a4];exact hO,by rw [a4];have:=k1.few;have:=h.few;omega,by rw [a1];exact h.segsN,fun n hn=>?_,fun n hn=>by rw [a2];rw [a1] at hn;exact h.top n hn⟩,fun n hn=>?_,fun _=>?_⟩
  ·rw [a1] at hn
   rw [a4]
   by_cases e:n=L.last
   ·rw [if_pos e,e,hv,Zrg]
    refine ⟨rfl,fun y hy=>?_⟩
    rcases List.mem_append.1 hy with hy | hy
    ·exact q2 y hy
    ·rw [List.mem_singleton.1 hy];exact hr
   ·rw [if_neg e,k1.same _ fun e2=>e (Zip (h.r.seg hn) e2)]
    exact h.segs n hn
  ·dsimp only
   by_cases e:n=L.last
   ·rw [if_pos e];exact ⟨[r],rfl⟩
   ·rw [if_neg e];exact ⟨[],(List.append_nil _).symm⟩
  ·rw [e2]
   refine ⟨hr,⟨a2.symm,by rw [a2,a1];exact hl⟩,⟨rs L.last,by rw [a2,if_pos rfl],by rw [←hlen]⟩,?_,?_⟩
   ·dsimp only
    rcases hf with hf | hf
    ·exact .inl (by omega)
    ·exact .inr hf
   ·dsimp only
    omega
 ·have e2:(addLP L r).2.2.2.2≠0:=by
   unfold addLP
   rw [if_neg e0]
   exact e0
  refine ⟨rs,⟨by rw [a4];exact k1.live,by rw [a4];exact k1.fi,hR,by rw [a3];exact h.lim,by rw [a4];exact hO,by rw [a4];have:=k1.few;have:=h.few;omega,by rw [a1];exact h.segsN,fun n hn=>?_,fun n hn=>by rw [a2];rw [a1] at hn;exact h.top n hn⟩,fun n hn=>⟨[],(List.append_nil _).symm⟩,fun e=>absurd e e2⟩
  rw [a1] at hn
  rw [a4]
  by_cases e:n=L.last
  ·rw [e,hv]
   exact ⟨rfl,q2⟩
  ·rw [k1.same _ fun e2=>e (Zip (h.r.seg hn) e2)]
   exact h.segs n hn
theorem TL.ladd (h:TL T N Z L rs) (r:Rc):∃ rs',TL (T+6) (N+3) (Z+1) (laddP L r).1 rs'∧(∀ n∈L.man.segs,n∈(laddP L r).1.man.segs∧∃ more,rs' n=rs n++more)∧L.last≤(laddP L r).1.last∧(laddP L r).1.limit=L.limit ∧
 ((laddP L r).2.2.2.2=0→Put (laddP L r).1 rs' (laddP L r).2 r L.limit):=by
 unfold laddP
 by_cases hr:Zq r
 rotate_left 1
 ·rw [if_neg hr]
  exact ⟨rs,h.mono (by omega) (by omega) (by omega),fun n hn=>⟨hn,[],(List.append_nil _).symm⟩,Int.le_refl _,rfl,fun e=>(by cases e)⟩
 rw [if_pos hr]
 by_cases hf:fitsP L (frS r).length=true
 ·rw [if_pos hf]
  have hl:L.last≠-1:=fun e=>by unfold fitsP at hf;rw [e] at hf;simp at hf
  have hin:=h.r.last.resolve_left hl
  unfold fitsP at hf
  rw [decide_eq_false hl,Zik,(h.segs _ hin).1] at hf
  simp only [Bool.not_false,Bool.true_and,Bool.or_eq_true,decide_eq_true_eq] at hf
  obtain ⟨rs',b1,b2,b3⟩:=h.adds hin r hf
  obtain ⟨a1,a2,a3,a4⟩:=Ju L r
  exact ⟨rs',b1.mono (by omega) (by omega) (by omega),fun n hn=>⟨by rw [a1];exact hn,b2 n hn⟩,by rw [a2];exact Int.le_refl _,a3,b3⟩
 ·rw [if_neg hf]
  obtain ⟨rs1,b1,b2,b3,b4,b5⟩:=h.roll
  by_cases he:(rollP L).2=0
  ·rw [if_pos he]
   obtain ⟨d1,d2⟩:=b5 he
   obtain ⟨a1,a2,a3,a4⟩:=Ju (rollP L).1 r
   obtain ⟨rs',c1,c2,c3⟩:=b1.adds d1 r (.inl (by rw [d2,J9];exact Int.le_refl 13))
   refine ⟨rs',c1,fun n hn=>?_,by rw [a2];exact b4,by rw [a3,b2],fun e=>b2 ▸ c3 e⟩
   obtain ⟨e1,e2⟩:=b3 n hn
   obtain ⟨more,e3⟩:=c2 n e1
   exact ⟨by rw [a1];exact e1,more,by rw [e3,e2]⟩
  ·rw [if_neg he]
   refine ⟨rs1,b1,fun n hn=>⟨(b3 n hn).1,[],by rw [(b3 n hn).2,List.append_nil]⟩,b4,b2,fun e=>absurd e he⟩
theorem TL.drop (h:TL T N Z L rs) (ds:List Int):TL (T+3+2*Z) (N+1) Z (dropP L ds).1 rs:=by
 obtain ⟨k1,k2,k3,k4⟩:=Zck L ds
 have hR:=h.r.drop ds
 have hsv:Kp L.dk (Z6 L (Yl ds L.man.segs)).1.dk (fun n=>n=nmT∨n=nmM) 1:=by
  have:=Zrm h.live h.fi ⟨Yl ds L.man.segs,L.man.next⟩
  unfold Z6
  split <;> exact this
 have hO:=h.ok.lsave (Yl ds L.man.segs)
 have hTM:∀ n,¬ (nmS n=nmT∨nmS n=nmM):=fun n e=>e.elim S_T S_M
 have hZ:=h.segsN
 by_cases he:(dropP L ds).2=0
 ·obtain ⟨hm,hmay⟩:=k3 he
  have hgo:=fun n (hn:n∈goesL ds L.man.segs)=>h.r.seg (List.mem_filter.1 hn).1
  have hrm:=removes_kp (goneN (goesL ds L.man.segs)) hsv.live hsv.fi
  have hdk:(dropP L ds).1.dk=Z7 (goneN (goesL ds L.man.segs)) (Z6 L (Yl ds L.man.segs)).1.dk:=by
   unfold dropP at he ⊢
   rw [if_pos hmay] at he ⊢
   split at he
   ·rename_i h0
    rw [if_pos h0]
    rfl
   ·rename_i h0
    exact absurd he h0
  have kp:=(hsv.wider (Y:=fun y=>(y=nmT∨y=nmM)∨y∈goneN (goesL ds L.man.segs)) (fun _ e=>.inl e) (Nat.le_refl _)).trans (hrm.wider (fun _ e=>.inr e) (Nat.le_refl _))
  rw [←hdk] at kp
  refine h.after kp (fun n hn e=>?_) hR k2 ?_ (fun n hn=>?_) ?_ k1
  ·rw [hm] at hn
   have hn2:=List.mem_filter.1 hn
   rcases e with e | e
   ·exact hTM n e
   ·have:=(Zvu hgo (h.r.seg hn2.1)).1 e
    have h3:=(List.mem_filter.1 this).2
    simp only [decide_eq_true_eq] at h3
    have h4:=hn2.2
    simp [h3] at h4
  ·rw [hdk]
   refine (hO.removes _).mono ?_ (Nat.le_refl _)
   have:=Zmu ds L.man.segs
   omega
  ·rw [hm] at hn
   exact (List.mem_filter.1 hn).1
  ·rw [hm]
   exact List.length_filter_le _ _
 ·have hm:=k4 he
  have hdk:(dropP L ds).1.dk=L.dk∨(dropP L ds).1.dk=(Z6 L (Yl ds L.man.segs)).1.dk:=by
   unfold dropP at he ⊢
   split
   ·rename_i hmay
    rw [if_pos hmay] at he
    split
    ·rename_i h0
     rw [if_pos h0] at he
     exact absurd rfl he
    ·exact .inr rfl
   ·exact .inl rfl
  have kp:Kp L.dk (dropP L ds).1.dk (fun n=>n=nmT∨n=nmM) 1:=by
   rcases hdk with e | e
   ·rw [e];exact (Kp.refl h.live h.fi _).wider (fun _ e=>e) (by omega)
   ·rw [e];exact hsv
  have ok:LOk (T+3+2*Z) 65599 (dropP L ds).1.dk:=by
   rcases hdk with e | e
   ·rw [e];exact h.ok.mono (by omega) (Nat.le_refl _)
   ·rw [e];exact hO.mono (by omega) (Nat.le_refl _)
  exact h.after kp (fun n _=>hTM n) hR k2 ok (fun n hn=>by rw [hm] at hn;exact hn) (by rw [hm];exact Nat.le_refl _) k1
theorem Zob (h:LgR L) {n:Int} (hn:n∈L.man.segs):Yd L (nmS n)=false:=by
 have h1:=Zc9 1 n (Zgf (h.seg hn))
 unfold Yd
 rw [show nmS n=ofP 1 n from rfl,h1]
 dsimp only
 rw [show L.has n=true from decide_eq_true hn]
 rfl
theorem TL.clean (h:TL T N Z L rs):TL (T+N) N Z (Zeq L) rs:=by
 have hrm:=removes_kp ((L.dk.names.map (·.1)).filter (Yd L)) h.live h.fi
 refine h.after (L':=Zeq L) hrm (fun n hn e=>?_) (h.r.on _) rfl ?_ (fun n hn=>hn) (Nat.le_refl _) rfl
 ·have:=(List.mem_filter.1 e).2
  rw [Zob h.r hn] at this
  cases this
 ·refine (h.ok.removes _).mono ?_ (Nat.le_refl _)
  have h1:((L.dk.names.map (·.1)).filter (Yd L)).length≤(L.dk.names.map (·.1)).length:=List.length_filter_le _ _
  rw [List.length_map] at h1
  have:=h.few
  omega
end
end Go.Proofs.YtkelafkbmnjpeaaGreat
namespace Go.Proofs.YtkelafkbmnjpeaaGreat
open Go.RowKit
section
variable {B d l n c:Nat} {w0 w w':World} {out out':Nat→Prop} {A:Option Addr} {L:Lg}
theorem LgAt.off {w':World} {oth:Nat→Prop} (h:LgAt B w0 w d l out A n c L) (hs:Zc oth w w') (ho:∀ k,oth k→k < w.heap.size→out k) (hB:∀ k,oth k→B≤k):LgAt B w0 w' d l (fun k=>out k∨(w.heap.size≤k∧k < w'.heap.size)) A n c L:=by
 have hl:=h.lt
 have hAl:∀ ad,A=some ad→ad.block < w.heap.size:=fun ad e=>h.dk.lt (.inr (.inr ⟨ad,e,rfl⟩))
 obtain ⟨⟨own,G,h1,h2,h3,h4,h5,h6⟩,k2,k3,k4,k5,k6⟩:=h
 have hno:∀ k,oth k→k < w.heap.size→k≠l∧(∀ ad,A=some ad→k≠ad.block):=fun k hk hlt=>⟨fun e=>k5 (e ▸ ho k hk hlt),fun ad e e2=>(k6 ad e).2 (e2 ▸ ho k hk hlt)⟩
 refine ⟨⟨own,G,h1.spare hs fun k hk e=>?_,h2,h3,h4.trans (hs.below h5 fun k hk e=>by have:=hB k e;omega),Nat.le_trans h5 hs.size,fun k hk=>?_⟩,k2.same (hs.same _ hl fun e=>(hno l e hl).1 rfl),?_,k4,?_,?_⟩
 ·have:=h6 k (.inl (ho k e (h1.lt hk)))
  rcases hk with hk | hk
  ·exact this.2.1 hk
  ·exact this.2.2 hk
 ·rcases hk with (hk | hk) | hk | hk
  ·exact ⟨Nat.lt_of_lt_of_le (h6 k (.inl hk)).1 hs.size,(h6 k (.inl hk)).2⟩
  ·exact ⟨hk.2,fun e=>by have:=h1.top.lt;omega,fun e=>by have:=h1.rest.lt k e;omega⟩
  ·exact ⟨Nat.lt_of_lt_of_le (h6 k (.inr (.inl hk))).1 hs.size,(h6 k (.inr (.inl hk))).2⟩
  ·exact ⟨Nat.lt_of_lt_of_le (h6 k (.inr (.inr hk))).1 hs.size,(h6 k (.inr (.inr hk))).2⟩
 ·refine Zz k3 fun k hk=>hs.same k (k3.lt k hk).2 fun e=>?_
  rcases Yk k3 with ⟨rfl,_⟩ | ⟨g,rfl,_,hg⟩
  ·cases hk
  ·injection hk with hk
   rw [←hk] at e
   exact (hno g e hg).2 _ rfl rfl
 ·rintro (e | e)
  ·exact k5 e
  ·omega
 ·intro ad e
  refine ⟨(k6 ad e).1,?_⟩
  rintro (e2 | e2)
  ·exact (k6 ad e).2 e2
  ·have:=hAl ad e;omega
theorem LgIn.grown (h:LgIn B w0 w d l out L) {row:Option Nat} (hg:w.grownBy w' row) (hr:∀ g,row=some g→out g) (hB:∀ g,row=some g→B≤g):LgIn B w0 w' d l (fun k=>out k∨(w.heap.size≤k∧k < w'.heap.size)) L:=by
 obtain ⟨A,n,c,h⟩:=h
 exact (h.off ((Zc.refl (fun k=>row=some k) w).grown hg fun g e=>e) (fun k hk _=>hr k hk) fun k hk=>hB k hk).in
theorem LgIn.more (h:LgIn B w0 w d l out L) (hg:Grows w w'):LgIn B w0 w' d l (fun k=>out k∨(w.heap.size≤k∧k < w'.heap.size)) L:=by
 obtain ⟨A,n,c,h⟩:=h
 exact (h.more hg).in
structure OwnG (B:Nat) (w:World) (out:Nat→Prop) (t:TypeId) (sz:Nat) (A:Option Addr) (n c:Nat) (xs:List Value):Prop where
 own:w.ownsRow B t sz (.slice A n c) n xs
 mine:∀ g,(Value.slice A n c).ownBlock=some g→out g
variable {t:TypeId} {sz:Nat} {xs:List Value}
theorem OwnG.nil (B:Nat) (w:World) (out:Nat→Prop) (t:TypeId) (sz:Nat):OwnG B w out t sz none 0 0 []:=⟨World.ownsRow_nil _ _ _ _,fun g h=>by cases h⟩
theorem OwnG.stays (h:OwnG B w out t sz A n c xs) (hs:Stays B out w w'):OwnG B w' out t sz A n c xs:=⟨Zz h.own fun k hk=>hs.same k (h.own.lt k hk).2 fun e=>e.2 (h.mine k hk),h.mine⟩
theorem OwnG.grow (h:OwnG B w out t sz A n c xs) (hg:Grows w w'):OwnG B w' out t sz A n c xs:=⟨Zd h.own hg,h.mine⟩
theorem OwnG.wider (h:OwnG B w out t sz A n c xs) (ho:∀ k,out k→out' k):OwnG B w out' t sz A n c xs:=⟨h.own,fun g e=>ho g (h.mine g e)⟩
theorem OwnG.low (h:OwnG B w out t sz A n c xs):∀ g,(Value.slice A n c).ownBlock=some g→B≤g:=fun g e=>(h.own.lt g e).1
theorem OwnG.snoc (h:OwnG B w out t sz A n c xs) {A1:Option Addr} {n1 c1 v:Nat} {ys:List Value} (hown:w'.ownsRow B t sz (.slice A1 n1 c1) n1 ys)
 (hat:(Value.slice A1 n1 c1).ownBlock=(Value.slice A n c).ownBlock∨(Value.slice A1 n1 c1).ownBlock=some v) (hv:v < w'.heap.size→out' v) (ho:∀ k,out k→out' k):OwnG B w' out' t sz A1 n1 c1 ys:=by
 refine ⟨hown,fun g e=>?_⟩
 rcases hat with hat | hat
 ·exact ho g (h.mine g (hat ▸ e))
 ·have e2:v=g:=by rw [hat] at e;exact Option.some.inj e
  subst e2
  exact hv (hown.lt _ hat).2
end
end Go.Proofs.YtkelafkbmnjpeaaGreat
set_option maxRecDepth 100000
namespace Go.Proofs.YtkelafkbmnjpeaaGreat
open Go.ChangeShapes Go.WideShapes Go.ChangeAt Go.RowKit
section
variable {H:Type} {enc:TypeId×Value→H} {W:World} {base:Nat} {r:Reach}
theorem Zrq {m:Nat} {a:Value} {x:DataW H×List MemPlace} (h:DataW.trod enc Tryz.prog W 0 (fun _=>true) true m 36 [a]=some x):∃ A n c ls,a=.slice A n c∧Locs W A n c ls:=by
 have ce:Tryz.prog.cellsOf 140=3:=by kernel_rfl
 have ci:Tryz.prog.cellsOf 3=1:=by kernel_rfl
 rcases DataW.trod_slice Tryz.underlying36 h with ⟨hcs,_⟩ | ⟨ad,len,cap,elems,rest,k,_,hcs,_,_,hl,_,hlen,hel,_⟩
 ·simp at hcs
  exact ⟨none,0,0,[],hcs,Locs.nil _⟩
 ·simp at hcs
  have each:∀ i,i < len→∃ l:Lc,W.cell? (ad.add (i*3))=some (.int .i64 l.1)∧W.cell? (ad.add (i*3+1))=some (.int .i64 l.2.1)∧W.cell? (ad.add (i*3+2))=some (.int .i64 l.2.2):=by
   intro i hi
   have h1:=hel i hi
   rw [ce,List.getElem?_eq_getElem (by omega)] at h1
   obtain ⟨cs',h2,h3⟩:=Option.bind_eq_some_iff.1 h1
   obtain ⟨_,hlen',hcell⟩:=World.cells?_some h2
   obtain ⟨ys,k',_,_,_,hyl,hf⟩:=DataW.trod_struct Tryz.underlying140 h3
   match ys,hyl,cs',hlen' with
   | [y0,y1,y2],_,[v0,v1,v2],_ =>
     have g0:DataW.trod enc Tryz.prog W 0 (fun _=>true) true k' 3 [v0]=some y0:=by
      have h:=hf 0 { name := "Seg", type:=3,offset:=0,embedded:=false,tag := "", pkgPath := "", byteOffset:=0 } rfl
      dsimp only at h
      rw [ci] at h
      exact h
     have g1:DataW.trod enc Tryz.prog W 0 (fun _=>true) true k' 3 [v1]=some y1:=by
      have h:=hf 1 { name := "At", type:=3,offset:=1,embedded:=false,tag := "", pkgPath := "", byteOffset:=8 } rfl
      dsimp only at h
      rw [ci] at h
      exact h
     have g2:DataW.trod enc Tryz.prog W 0 (fun _=>true) true k' 3 [v2]=some y2:=by
      have h:=hf 2 { name := "N", type:=3,offset:=2,embedded:=false,tag := "", pkgPath := "", byteOffset:=16 } rfl
      dsimp only at h
      rw [ci] at h
      exact h
     obtain ⟨z0,e0,_⟩:=DataW.trod_int Tryz.underlying3 g0
     obtain ⟨z1,e1,_⟩:=DataW.trod_int Tryz.underlying3 g1
     obtain ⟨z2,e2,_⟩:=DataW.trod_int Tryz.underlying3 g2
     have c0:=hcell 0 (by omega)
     have c1:=hcell 1 (by omega)
     have c2:=hcell 2 (by omega)
     rw [Jg] at c0 c1 c2
     simp at c0 c1 c2 e0 e1 e2
     subst e0 e1 e2
     exact ⟨(z0,z1,z2),c0,c1,c2⟩
  obtain ⟨f,hf⟩:=Go.Deep.choose_lt each
  refine ⟨some ad,len,cap,(List.range len).map f,hcs,by simp,hl,(fun h=>by cases h),⟨by rw [lcCells_length];simp,fun k v hv=>?_⟩⟩
  have hk:k < 3*len:=by
   rcases Nat.lt_or_ge k (3*len) with h | h
   ·exact h
   ·rw [List.getElem?_eq_none (by rw [lcCells_length];simpa using h)] at hv
    cases hv
  obtain ⟨i,j,e,hj,hi⟩:∃ i j,k=3*i+j∧j < 3∧i < len:=⟨k / 3,k % 3,by omega,by omega,by omega⟩
  have hg:((List.range len).map f)[i]?=some (f i):=by rw [List.getElem?_map,List.getElem?_range hi];rfl
  obtain ⟨g0,g1,g2⟩:=lcCells_get _ i _ hg
  obtain ⟨c0,c1,c2⟩:=hf i hi
  have hcell:W.cell? (ad.add k)=some v:=by
   match j,hj with
   | 0,_ =>
     subst e
     rw [show 3*i+0=3*i from rfl] at hv ⊢
     rw [g0] at hv
     rw [Nat.mul_comm,c0]
     exact hv
   | 1,_ =>
     subst e
     rw [g1] at hv
     rw [Nat.mul_comm,c1]
     exact hv
   | 2,_ =>
     subst e
     rw [g2] at hv
     rw [Nat.mul_comm,c2]
     exact hv
  exact ⟨ad,rfl,by have:=World.block_lt_of_cell? W _ hcell;rwa [Zk] at this,hcell⟩
end
end Go.Proofs.YtkelafkbmnjpeaaGreat
namespace Go.Proofs.YtkelafkbmnjpeaaGreat
open Go.ChangeShapes Go.WideShapes Go.ChangeAt Go.RowKit
instance:Inhabited (Rc×Fh):=⟨(Rc.none,((Option.none,0,0),(Option.none,0,0)))⟩
def rcL (x:Rc) (p:Fh):List Value:=[.int .i64 x.kind,.string ⟨x.key.toArray⟩,.int .i64 x.id,.int .i64 x.no,.int .i64 x.size,.slice p.1.1 p.1.2.1 p.1.2.2,.slice p.2.1 p.2.2.1 p.2.2.2]
structure Recs (w:World) (A:Option Addr) (n c:Nat) (rs:List Rc):Prop where
 len:rs.length=n
 cap:n≤c
 spot:∀ i,i < n→∃ (ad:Addr) (r:Rc) (p:Fh),A=some ad∧ad.block < w.heap.size∧rs[i]?=some r∧RcIn w p.1.1 p.1.2.1 p.1.2.2 p.2.1 p.2.2.1 p.2.2.2 r∧∀ k,k < 7→w.cell? ((ad.add (i*7)).add k)=(rcL r p)[k]?
section
variable {H:Type} {enc:TypeId×Value→H} {W:World} {base:Nat} {r:Reach}
end
end Go.Proofs.YtkelafkbmnjpeaaGreat
namespace Go.Proofs.YtkelafkbmnjpeaaGreat
open Go.RowKit
structure ST (L:Lg) (rs:Int→List Rc) (st:List (Int×Int×Rc)):Prop where
 there:∀ s∈st,s.1∈L.man.segs∧∃ us bs,rs s.1=us++s.2.2 :: bs∧s.2.1=((13+(Zax us).length:Nat):Int)
 sorted:st.Pairwise fun a b=>a.1≤b.1
section
variable {T N Z:Nat} {L L':Lg} {rs rs':Int→List Rc} {st:List (Int×Int×Rc)}
theorem ST.nil (L:Lg) (rs:Int→List Rc):ST L rs []:=⟨fun s hs=>(by cases hs),List.Pairwise.nil⟩
theorem ST.after (h:ST L rs st) (hs:∀ n∈L.man.segs,n∈L'.man.segs∧∃ more,rs' n=rs n++more):ST L' rs' st:=by
 refine ⟨fun s hm=>?_,h.sorted⟩
 obtain ⟨h1,us,bs,h2,h3⟩:=h.there s hm
 obtain ⟨h4,more,h5⟩:=hs _ h1
 exact ⟨h4,us,bs++more,by rw [h5,h2,List.append_assoc];rfl,h3⟩
theorem ST.put (h:ST L' rs' st) (ht:TL T N Z L' rs') {v:Int×Int×Int×Int} {r:Rc} {limit:Int} (hp:Put L' rs' v r limit):ST L' rs' (st++[(v.1,v.2.1,r)]):=by
 obtain ⟨us,h1,h2⟩:=hp.at_
 refine ⟨fun s hm=>?_,List.pairwise_append.2 ⟨h.sorted,List.pairwise_singleton _ _,fun a ha b hb=>?_⟩⟩
 ·rcases List.mem_append.1 hm with hm | hm
  ·exact h.there s hm
  ·rw [List.mem_singleton.1 hm]
   dsimp only
   rw [hp.seg.1]
   exact ⟨hp.seg.2,us,[],h1,h2⟩
 ·rw [List.mem_singleton.1 hb]
  dsimp only
  rw [hp.seg.1]
  exact ht.top _ (h.there a ha).1
theorem ST.drop (h:ST L rs st) {ds:List Int} (hm:L'.man.segs=Yl ds L.man.segs):ST L' rs (st.filter fun s=>!decide (s.1∈ds)):=by
 refine ⟨fun s hs=>?_,h.sorted.filter _⟩
 obtain ⟨h1,h2⟩:=List.mem_filter.1 hs
 obtain ⟨h3,h4⟩:=h.there s h1
 refine ⟨?_,h4⟩
 rw [hm]
 exact List.mem_filter.2 ⟨h3,h2⟩
theorem ST.get (h:ST L rs st) (ht:TL T N Z L rs) {s:Int×Int×Rc} (hs:s∈st):lgetP L s.1 s.2.1=(s.2.2,0):=by
 obtain ⟨h1,us,bs,h2,h3⟩:=h.there s hs
 obtain ⟨q1,q2⟩:=ht.segs _ h1
 unfold lgetP
 rw [if_pos (show L.has s.1=true from decide_eq_true h1),h3]
 rw [h2] at q1
 exact Zvs ht.live.down q1 (q2 _ (by rw [h2];exact List.mem_append_right _ (List.mem_cons_self ..)))
theorem ST.low (h:ST L rs st) (ht:TL T N Z L rs) {s:Int×Int×Rc} (hs:s∈st):(0≤s.1∧s.1≤99999999)∧0≤s.2.1∧s.2.1≤65599:=by
 obtain ⟨h1,us,bs,h2,h3⟩:=h.there s hs
 obtain ⟨q1,q2⟩:=ht.segs _ h1
 have hn:=ht.r.seg h1
 have hz:=(ht.ok.size hn).2
 rw [Zik,q1] at hz
 dsimp only at hz
 rw [J9,h2] at hz
 unfold Zax at hz
 rw [List.map_append,putL_append,List.length_append] at hz
 refine ⟨hn,?_⟩
 rw [h3]
 unfold Zax
 omega
def stE (p:(Int×Int×Rc)×Fh):List Value:=[.int .i64 p.1.1,.int .i64 p.1.2.1,.int .i64 p.1.2.2.kind,.string ⟨p.1.2.2.key.toArray⟩,.int .i64 p.1.2.2.id,.int .i64 p.1.2.2.no,.int .i64 p.1.2.2.size,.slice p.2.1.1 p.2.1.2.1 p.2.1.2.2,.slice p.2.2.1 p.2.2.2.1 p.2.2.2.2]
theorem stL (p:(Int×Int×Rc)×Fh):(stE p).length=9:=rfl
theorem Zlm (p:(Int×Int×Rc)×Fh):∀ u∈stE p,u.oneCell'=true:=by
 intro u hu
 simp only [stE,List.mem_cons,List.not_mem_nil,or_false] at hu
 rcases hu with rfl | rfl | rfl | rfl | rfl | rfl | rfl | rfl | rfl <;> rfl
theorem infoSt:(Tryz.prog.info? 64).map (fun i=>(i.zero,i.size,i.bytes))=some (some (.agg #[.int .i64 0,.int .i64 0,.int .i64 0,.string ⟨#[]⟩,.int .i64 0,.int .i64 0,.int .i64 0,.slice none 0 0,.slice none 0 0]),9,112):=by kernel_rfl
theorem Zvq {w:World} {p:(Int×Int×Rc)×Fh} {g:Nat} (h:Whole w g 64 (stE p).toArray):∀ (k:Nat) (v:Value),(stE p)[k]?=some v→w.cell? ((⟨g,0,none⟩:Addr).add k)=some v:=fun k v hv=>by
 rw [show (⟨g,0,none⟩:Addr).add k=⟨g,k,none⟩ by unfold Addr.add;split <;> simp_all,h.cell k]
 simpa using hv
theorem Zt6 {w:World} {p:(Int×Int×Rc)×Fh} {g:Nat} (h:Whole w g 64 (stE p).toArray):Row w w.heap.size (some ⟨g,0,none⟩) 9 (stE p) :=
 ⟨rfl,fun k v hv=>⟨⟨g,0,none⟩,rfl,h.lt,Zvq h k v hv⟩⟩
structure AllS (B:Nat) (w0 w:World) (out:Nat→Prop) (A:Option Addr) (q c:Nat) (st:List ((Int×Int×Rc)×Fh)):Prop where
 own:OwnG B w out 64 9 A q c (st.flatMap stE)
 len:st.length=q
 recs:∀ p∈st,RcIn w0 p.2.1.1 p.2.1.2.1 p.2.1.2.2 p.2.2.1 p.2.2.2.1 p.2.2.2.2 p.1.2.2
variable {B q c:Nat} {w0 w w':World} {out out':Nat→Prop} {A:Option Addr} {l:List ((Int×Int×Rc)×Fh)}
theorem AllS.nil (B:Nat) (w0 w:World) (out:Nat→Prop):AllS B w0 w out none 0 0 []:=⟨OwnG.nil _ _ _ _ _,rfl,fun p hp=>(by cases hp)⟩
theorem AllS.stays (h:AllS B w0 w out A q c l) (hs:Stays B out w w'):AllS B w0 w' out A q c l:=⟨h.own.stays hs,h.len,h.recs⟩
theorem AllS.grow (h:AllS B w0 w out A q c l) (hg:Grows w w'):AllS B w0 w' out A q c l:=⟨h.own.grow hg,h.len,h.recs⟩
theorem AllS.wider (h:AllS B w0 w out A q c l) (ho:∀ k,out k→out' k):AllS B w0 w out' A q c l:=⟨h.own.wider ho,h.len,h.recs⟩
theorem AllS.rw (h:AllS B w0 w out A q c l):Rw w A q stE 9 l:=Rw.owned stL h.len (Zh h.own.own (Nat.zero_le _))
theorem AllS.beside (h:AllS B w0 w out A q c l) {b:Nat} {row:Option Nat} (hg:w.grownBy w' row) (hr:∀ g,row=some g→b≤g) (hA:∀ g,(Value.slice A q c).ownBlock=some g→g < b):AllS B w0 w' out A q c l :=
 ⟨⟨Zz h.own.own fun k hk=>hg.block k (h.own.own.lt k hk).2 fun e=>by have:=hr k e.symm;have:=hA k hk;omega,h.own.mine⟩,h.len,h.recs⟩
theorem AllS.cells (h:AllS B w0 w out A q c l) {i:Nat} {x:(Int×Int×Rc)×Fh} (hi:l[i]?=some x):∃ g,A=some ⟨g,0,none⟩∧g < w.heap.size∧∀ w',Grows w w'→∀ t,t < 9→w'.cell? ⟨g,i*9+t,none⟩=(stE x)[t]?:=by
 obtain ⟨g,hA,hg,kc⟩:=h.rw.spot i x hi
 exact ⟨g,hA,hg,fun w' hC t ht=>(hC.cell (show (⟨g,i*9+t,none⟩:Addr).block < w.heap.size from hg)).trans (kc t ht)⟩
end
end Go.Proofs.YtkelafkbmnjpeaaGreat
set_option maxHeartbeats 8000000
set_option maxRecDepth 100000
namespace Go.Proofs.YtkelafkbmnjpeaaGreat
open Go.Lib (hid)
open Go.RowKit Go.Maps Go.WideMaps
section
variable {B d l n c T S K:Nat} {w0 w:World} {out:Nat→Prop} {A:Option Addr} {L:Lg}
def LgV (B:Nat) (w:World) (d l:Nat) (A:Option Addr) (n c:Nat) (L:Lg):Prop:=Whole w l 100 (lgC d A n c L)∧w.ownsRow B 3 1 (.slice A n c) n (L.man.segs.map iV)
theorem LgAt.v (h:LgAt B w0 w d l out A n c L):LgV B w d l A n c L:=⟨h.2.1,h.2.2.1⟩
theorem LgV.grow {w':World} (h:LgV B w d l A n c L) (hg:Grows w w'):LgV B w' d l A n c L:=⟨hg.whole h.1,Zd h.2 hg⟩
theorem LgV.kept {R:Nat→Prop} {w':World} (h:LgV B w d l A n c L) (hs:Zc R w w') (h1:¬ R l) (h2:∀ ad,A=some ad→¬ R ad.block):LgV B w' d l A n c L:=by
 refine ⟨h.1.same (hs.same _ h.1.lt h1),Zz h.2 fun k hk=>hs.same k (h.2.lt k hk).2 ?_⟩
 rcases Yk h.2 with ⟨rfl,_⟩ | ⟨g,rfl,_⟩
 ·cases hk
 ·injection hk with hk
  rw [←hk]
  exact h2 _ rfl
theorem Zrr (x:Int) (h:LgV B w d l A n c L) (hr:LgR L) :
 Calls Tryz.prog 80 #[.pointer (some ⟨l,0,none⟩),.int .i64 x] w fun e w'=>e=.returned (.bool (L.has x))∧Grows w w':=by
 have hw:=h.1
 unfold lgC at hw
 have z2:w.cell? { block:=l,off:=2 }=some (.slice A n c):=hw.cell 2
 have hc:=Zgd B A n c L.man.segs x w h.2 hr.rise (by have:=(Ints.owned h.2).len;have:=hr.few;omega)
 unfold Lg.has
 obtain ⟨b,hb⟩:∃ b,decide (x∈L.man.segs)=b:=⟨_,rfl⟩
 rw [hb] at hc ⊢
 have HC:=hid hc
 clear h hr hc hb hw
 go_enter Tryz.func80,Tryz.ntmps80
 go_wp2_with (fail)
 refine HC.out.mono ?_
 rintro e w1 ⟨k,rfl,hg⟩
 have HG:=hid hg
 clear hg
 go_wp2_with (fail)
 go_ret
 exact ⟨rfl,HG.out⟩
theorem Zrs (nm:Nm) (hnm:nm.length≤1000000) (w:World) (h:LgV B w d l A n c L) (hr:LgR L) :
 Calls Tryz.prog 140 #[.pointer (some ⟨l,0,none⟩),.string ⟨nm.toArray⟩] w fun e w'=>e=.returned (.bool (Yd L nm))∧Grows w w':=by
 have hp:=Zj1 nm (by omega) w
 have HV:=hid h
 have HR:=hid hr
 obtain ⟨r,hrr⟩:∃ r,Yd L nm=r:=⟨_,rfl⟩
 rw [hrr]
 unfold Yd at hrr
 obtain ⟨s,hs⟩:∃ s:ByteArray,(⟨nm.toArray⟩:ByteArray)=s:=⟨_,rfl⟩
 rw [hs] at hp ⊢
 cases hq:parseP nm with
 | none =>
   rw [hq] at hp hrr
   have HP:=hid hp
   unfold trip tripV at HP
   dsimp only at HP
   subst hrr
   clear h hr hp hs hq
   go_enter Tryz.func140,Tryz.ntmps140
   go_wp2_with (fail)
   refine HP.out.mono ?_
   rintro e w1 ⟨rfl,hg⟩
   have HG:=hid hg
   clear hg
   go_wp2_with (fail)
   go_ret
   exact ⟨rfl,HG.out⟩
 | some kn =>
   obtain ⟨k,x⟩:=kn
   have hk:=Zg3 nm k x hq
   rw [hq] at hp hrr
   dsimp only at hrr
   have HP:=hid hp
   unfold trip tripV at HP
   dsimp only at HP
   have HH:=hid (fun w' (hg:Grows w w')=>Zrr x (HV.out.grow hg) HR.out)
   obtain ⟨b,hb⟩:∃ b,L.has x=b:=⟨_,rfl⟩
   rw [hb] at HH hrr
   clear h hr hp hs hq hb
   obtain rfl | rfl | rfl | rfl:k=1∨k=2∨k=3∨k=4:=by omega
   ·simp at hrr
    subst hrr
    go_enter Tryz.func140,Tryz.ntmps140
    go_wp2_with (fail)
    refine HP.out.mono ?_
    rintro e w1 ⟨rfl,hg⟩
    have HG:=hid hg
    clear hg
    go_wp2_with (fail)
    refine (HH.out w1 HG.out).mono ?_
    rintro e w2 ⟨rfl,hg⟩
    have HG2:=hid (Grows.trans HG.out hg)
    clear hg
    go_wp2_with (fail)
    go_ret
    exact ⟨rfl,HG2.out⟩
   ·simp at hrr
    subst hrr
    go_enter Tryz.func140,Tryz.ntmps140
    go_wp2_with (fail)
    refine HP.out.mono ?_
    rintro e w1 ⟨rfl,hg⟩
    have HG:=hid hg
    clear hg
    go_wp2_with (fail)
    refine (HH.out w1 HG.out).mono ?_
    rintro e w2 ⟨rfl,hg⟩
    have HG2:=hid (Grows.trans HG.out hg)
    clear hg
    go_wp2_with (fail)
    go_ret
    exact ⟨rfl,HG2.out⟩
   ·simp at hrr
    subst hrr
    go_enter Tryz.func140,Tryz.ntmps140
    go_wp2_with (fail)
    refine HP.out.mono ?_
    rintro e w1 ⟨rfl,hg⟩
    have HG:=hid hg
    clear hg
    go_wp2_with (fail)
    go_ret
    exact ⟨rfl,HG.out⟩
   ·simp at hrr
    subst hrr
    go_enter Tryz.func140,Tryz.ntmps140
    go_wp2_with (fail)
    refine HP.out.mono ?_
    rintro e w1 ⟨rfl,hg⟩
    have HG:=hid hg
    clear hg
    go_wp2_with (fail)
    go_ret
    exact ⟨rfl,HG.out⟩
end
end Go.Proofs.YtkelafkbmnjpeaaGreat
