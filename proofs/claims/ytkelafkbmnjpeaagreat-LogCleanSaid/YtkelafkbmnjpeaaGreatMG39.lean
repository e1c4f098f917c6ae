/-
  Texts that the statements lean on, one behind the other.
-/
import Derived.Test.YtkelafkbmnjpeaaGreatMG38
import Derived.Test.YtkelafkbmnjpeaaGreatMG36
import Derived.Test.YtkelafkbmnjpeaaGreatMG25
import Derived.Test.YtkelafkbmnjpeaaGreatMG33
import Derived.Test.YtkelafkbmnjpeaaGreatMG21
import Derived.Test.YtkelafkbmnjpeaaGreatMG08
import Derived.Test.YtkelafkbmnjpeaaGreatMG12
import Derived.Deep.SlicePairs
import Derived.Test.YtkelafkbmnjpeaaGreatMG19
import Derived.Test.YtkelafkbmnjpeaaGreatMG11
set_option linter.unusedVariables false
namespace Go.Proofs.YtkelafkbmnjpeaaGreat
open Go.RowKit
structure TL (T N Z:Nat) (L:Lg) (rs:Int→List Rc):Prop where
 live:Live L.dk
 fi:FI L.dk
 r:LgR L
 lim:L.limit≤65599
 ok:LOk T 65599 L.dk
 few:L.dk.names.length≤N
 segsN:L.man.segs.length≤Z
 segs:∀ n∈L.man.segs,vw L.dk (nmS n)=some (segB n (rs n))∧∀ r∈rs n,Zv r
 top:∀ n∈L.man.segs,n≤L.last
section
variable {T N Z T' N' Z' k:Nat} {L L':Lg} {rs:Int→List Rc} {X:Nm→Prop}
theorem TL.mono (h:TL T N Z L rs) (hT:T≤T') (hN:N≤N') (hZ:Z≤Z'):TL T' N' Z' L rs:=⟨h.live,h.fi,h.r,h.lim,h.ok.mono hT (Nat.le_refl _),Nat.le_trans h.few hN,Nat.le_trans h.segsN hZ,h.segs,h.top⟩
theorem TL.new {n:Int} (hn:64≤n∧n≤65599):TL 0 0 0 (LG0 n) fun _=>[] :=
 ⟨⟨by kernel_rfl,Zea (show (LG0 n).dk.cut=-1 by kernel_rfl)⟩,FI.new _,(LW.new (by omega)).r,hn.2,LOk.new _,Nat.le_refl 0,Nat.le_refl 0,fun n hn=>(by cases hn),fun n hn=>(by cases hn)⟩
theorem TL.after (h:TL T N Z L rs) (hk:Kp L.dk L'.dk X k) (hX:∀ n∈L'.man.segs,¬ X (nmS n)) (hr:LgR L') (hlim:L'.limit=L.limit) (ok:LOk T' 65599 L'.dk) (hs:∀ n∈L'.man.segs,n∈L.man.segs) (hz:L'.man.segs.length≤L.man.segs.length) (hl:L'.last=L.last):TL T' (N+k) Z L' rs:=by
 refine ⟨hk.live,hk.fi,hr,by rw [hlim];exact h.lim,ok,by have:=hk.few;have:=h.few;omega,Nat.le_trans hz h.segsN,fun n hn=>?_,fun n hn=>by rw [hl];exact h.top n (hs n hn)⟩
 rw [hk.same _ (hX n hn)]
 exact h.segs n (hs n hn)
theorem TL.sync (h:TL T N Z L rs):TL T N Z (Zy L).1 rs:=by
 obtain ⟨k1,k2,k3⟩:=Zcx L
 have hk:Kp L.dk (Zy L).1.dk (fun _=>False) 0:=by
  unfold Zy
  split
  ·exact Kp.refl h.live h.fi _
  ·exact Zlv h.live h.fi _
 exact h.after hk (fun _ _ e=>e) h.r.sync k3 h.ok.lsync (fun n hn=>by rw [k1] at hn;exact hn) (by rw [k1];exact Nat.le_refl _) k2
theorem TL.fail (h:TL T N Z L rs) {x:Int} (hx:x≤9223372036854775807):TL T N Z (L.on (L.dk.setFail x)) rs :=
 h.after (L':=L.on (L.dk.setFail x)) (Zvv h.live h.fi x) (fun _ _ e=>e) (h.r.on _) rfl (h.ok.fails x hx) (fun n hn=>hn) (Nat.le_refl _) rfl
theorem TL.roll (h:TL T N Z L rs):∃ rs',TL (T+6) (N+3) (Z+1) (rollP L).1 rs'∧(rollP L).1.limit=L.limit∧(∀ n∈L.man.segs,n∈(rollP L).1.man.segs∧rs' n=rs n)∧L.last≤(rollP L).1.last ∧
 ((rollP L).2=0→(rollP L).1.last∈(rollP L).1.man.segs∧rs' (rollP L).1.last=[]):=by
 have hR:=h.r.roll
 have hO:=h.ok.roll (by omega) h.r.lasts
 have hs:=h.sync
 obtain ⟨k1,k2,k3⟩:=Zcx L
 unfold rollP at hR hO ⊢
 by_cases h0:(Zy L).2=0
 rotate_left 1
 ·rw [if_neg h0]
  exact ⟨rs,hs.mono (by omega) (by omega) (by omega),k3,fun n hn=>⟨by rw [k1];exact hn,rfl⟩,by rw [k2];exact Int.le_refl _,fun e=>absurd e h0⟩
 rw [if_pos h0] at hR hO ⊢
 by_cases h1:99999999≤lnumP (Zy L).1∨1000≤L.man.segs.length
 ·rw [if_pos h1]
  exact ⟨rs,hs.mono (by omega) (by omega) (by omega),k3,fun n hn=>⟨by rw [k1];exact hn,rfl⟩,by rw [k2];exact Int.le_refl _,fun e=>(by cases e)⟩
 rw [if_neg h1] at hR hO ⊢
 have hge:=Zl5 (Zy L).1
 obtain ⟨x,hx⟩:∃ x,lnumP (Zy L).1=x:=⟨_,rfl⟩
 rw [hx] at hR hO hge h1 ⊢
 obtain ⟨L1,hL1⟩:∃ y,(Zy L).1=y:=⟨_,rfl⟩
 rw [hL1] at hs hR hO hge k1 k2 k3 ⊢
 simp only [not_or,Int.not_le] at h1
 have hri:=Yn.1 hs.r.man
 have hnx:0≤x∧x≤99999999:=by omega
 have hlow:∀ n∈L1.man.segs,n < x:=fun n hn=>by have:=hri.2.2.1 n hn;omega
 have hsn:∀ n∈L1.man.segs,nmS n≠nmS x:=fun n hn e=>by have:=Ziz (hs.r.seg hn) e;have:=hlow n hn;omega
 have hTM:∀ n,¬ (nmS n=nmT∨nmS n=nmM):=fun n e=>e.elim S_T S_M
 obtain ⟨m1,m2⟩:=Zvw hs.live hs.fi x
 -- what is left where all stays
 have stay:∀ (L':Lg) (k:Nat),k≤3→LgR L'→LOk (T+6) 65599 L'.dk→Kp L1.dk L'.dk (fun y=>y=nmS x∨y=nmT∨y=nmM) k→L'.limit=L1.limit→L'.man.segs=L1.man.segs→L'.last=L1.last→∃ rs',TL (T+6) (N+3) (Z+1) L' rs'∧L'.limit=L.limit∧(∀ n∈L.man.segs,n∈L'.man.segs∧rs' n=rs n)∧L.last≤L'.last:=fun L' k hk r ok kp e1 e2 e3=>by
  refine ⟨rs,(hs.after kp (fun n hn e=>?_) r e1 ok (fun n hn=>by rw [e2] at hn;exact hn) (by rw [e2];exact Nat.le_refl _) e3).mono (Nat.le_refl _) (by omega) (by omega),by rw [e1,k3],fun n hn=>⟨by rw [e2,k1];exact hn,rfl⟩,by rw [e3,k2];exact Int.le_refl _⟩
  rw [e2] at hn
  exact e.elim (hsn n hn) (hTM n)
 unfold rollA at hR hO ⊢
 by_cases hm:(makeP (L1.next (x+1)).dk x).2=0
 rotate_left 1
 ·rw [if_neg hm] at hR hO ⊢
  obtain ⟨rs',a1,a2,a3,a4⟩:=stay _ 1 (by omega) hR hO (m1.wider (fun _ e=>.inl e) (Nat.le_refl _)) rfl rfl rfl
  exact ⟨rs',a1,a2,a3,a4,fun e=>absurd e hm⟩
 rw [if_pos hm] at hR hO ⊢
 obtain ⟨M,hM⟩:∃ M,(L1.next (x+1)).on (makeP (L1.next (x+1)).dk x).1=M:=⟨_,rfl⟩
 have q1:M.man=⟨L1.man.segs,x+1⟩:=by rw [←hM];rfl
 have q2:M.last=L1.last:=by rw [←hM];rfl
 have q3:M.limit=L1.limit:=by rw [←hM];rfl
 have q4:Kp L1.dk M.dk (fun y=>y=nmS x) 1:=by rw [←hM];exact m1
 have q5:vw M.dk (nmS x)=some (segB x []):=by rw [←hM];exact m2 hm
 rw [hM] at hR hO ⊢
 clear hM m1 m2 hm
 obtain ⟨f1,f2,f3,f4⟩:=Je M (M.man.segs++[x])
 have hsv:Kp M.dk (Z7 M (M.man.segs++[x])).1.dk (fun n=>n=nmT∨n=nmM) 1:=by
  have:=Zr7 q4.live q4.fi ⟨M.man.segs++[x],M.man.next⟩
  unfold Z7
  split <;> exact this
 unfold rollB at hR hO ⊢
 by_cases hv:(Z7 M (M.man.segs++[x])).2=0
 rotate_left 1
 ·rw [if_neg hv] at hR hO ⊢
  have kp:=(q4.wider (Y:=fun y=>y=nmS x∨y=nmT∨y=nmM) (fun _ e=>.inl e) (Nat.le_refl _)).trans (hsv.wider (Y:=fun y=>y=nmS x∨y=nmT∨y=nmM) (fun _ e=>.inr e) (Nat.le_refl _))
  obtain ⟨rs',a1,a2,a3,a4⟩:=stay _ 2 (by omega) hR hO kp (by rw [f2,q3]) (by rw [f4 hv,q1]) (by rw [f1,q2])
  exact ⟨rs',a1,a2,a3,a4,fun e=>absurd e hv⟩
 rw [if_pos hv] at hR hO ⊢
 have hman:=f3 hv
 obtain ⟨V,hV⟩:∃ V,(Z7 M (M.man.segs++[x])).1=V:=⟨_,rfl⟩
 rw [hV] at hR hO hman hsv f1 f2 ⊢
 rw [q1] at hman
 dsimp only at hR hO ⊢
 have hw:Kp V.dk (rollC V x).dk (fun y=>y=nmH V.last) 1:=by
  unfold rollC
  dsimp only
  split
  ·exact (Kp.refl hsv.live hsv.fi _).wider (fun _ e=>e) (by omega)
  ·exact Zuf hsv.live hsv.fi _
 have c1:(rollC V x).man=V.man∧(rollC V x).last=x∧(rollC V x).limit=V.limit:=by
  unfold rollC
  split <;> exact ⟨rfl,rfl,rfl⟩
 have hH:∀ n,0≤n∧n≤99999999→nmS n≠nmH V.last:=fun n hn=>S_H hn
 have hsegs:(rollC V x).man.segs=L1.man.segs++[x]:=by rw [c1.1,hman]
 refine ⟨fun n=>if n=x then [] else rs n,⟨hw.live,hw.fi,hR,by rw [c1.2.2,f2,q3];exact hs.lim,hO,?_,?_,fun n hn=>?_,fun n hn=>?_⟩,by rw [c1.2.2,f2,q3,k3],fun n hn=>?_,?_,fun _=>?_⟩
 ·have:=hw.few;have:=hsv.few;have:=q4.few;have:=hs.few;omega
 ·rw [hsegs,List.length_append,List.length_singleton]
  have:=hs.segsN
  omega
 ·rw [hsegs] at hn
  rcases List.mem_append.1 hn with hn | hn
  ·have hnr:=hs.r.seg hn
   rw [hw.same _ (hH n hnr),hsv.same _ (hTM n),q4.same _ (hsn n hn),if_neg (by have:=hlow n hn;omega)]
   exact hs.segs n hn
  ·rw [List.mem_singleton.1 hn,if_pos rfl,hw.same _ (hH x hnx),hsv.same _ (hTM x)]
   exact ⟨q5,fun r hr=>(by cases hr)⟩
 ·rw [c1.2.1]
  rw [hsegs] at hn
  rcases List.mem_append.1 hn with hn | hn
  ·have:=hlow n hn;omega
  ·have:=List.mem_singleton.1 hn;omega
 ·rw [hsegs]
  rw [←k1] at hn
  exact ⟨List.mem_append_left _ hn,if_neg (by have:=hlow n hn;omega)⟩
 ·rw [c1.2.1,←k2]
  rcases hs.r.last with e | e
  ·omega
  ·have:=hlow _ e;omega
 ·rw [c1.2.1,hsegs]
  exact ⟨List.mem_append_right _ (List.mem_singleton.2 rfl),if_pos rfl⟩
structure Put (L':Lg) (rs':Int→List Rc) (v:Int×Int×Int×Int) (r:Rc) (limit:Int):Prop where
 right:Zv r
 seg:v.1=L'.last∧L'.last∈L'.man.segs
 at_:∃ us,rs' L'.last=us++[r]∧v.2.1=((13+(Zkh us).length:Nat):Int)
 fits:v.2.1=13∨v.2.1+v.2.2.1≤limit
 size:0≤v.2.1∧v.2.1≤65599∧0≤v.2.2.1∧v.2.2.1≤8200
theorem TL.adds (h:TL T N Z L rs) (hl:L.last∈L.man.segs) (r:Rc) (hf:((segB L.last (rs L.last)).length:Int)≤13∨((segB L.last (rs L.last)).length:Int)+(frS r).length≤L.limit) :
 ∃ rs',TL T N Z (addLP L r).1 rs'∧(∀ n∈L.man.segs,∃ more,rs' n=rs n++more)∧((addLP L r).2.2.2.2=0→Put (addLP L r).1 rs' (addLP L r).2 r L.limit):=by
 obtain ⟨a1,a2,a3,a4⟩:=Jt L r
 have hR:=h.r.adds r
 obtain ⟨q1,q2⟩:=h.segs _ hl
 obtain ⟨k1,k2⟩:=Zwi h.live h.fi L.last r q1
 have hlr:=h.r.seg hl
 have hfs:=Zdb r
 have hlim:=h.lim
 have hlen:(segB L.last (rs L.last)).length=13+(Zkh (rs L.last)).length:=Zgb _ _
 have hO:LOk T 65599 (addP L.dk L.last r).1:=by
  unfold addP
  split
  ·have hz:(L.dk.size (nmS L.last)).1=((segB L.last (rs L.last)).length:Int):=by rw [Zeb,q1]
   have:=h.ok.append (S':=65599) (nmS L.last) (frS r) (Nat.le_refl _) (fun _=>by omega) (by omega)
   split <;> exact this
  ·exact h.ok
 rcases k2 with ⟨e0,hr,ev,hv⟩ | ⟨e0,hv⟩
 ·have e2:(addLP L r).2=(L.last,((segB L.last (rs L.last)).length:Int),((frS r).length:Int),0):=by
   unfold addLP
   rw [if_pos e0,ev]
  refine ⟨fun n=>if n=L.last then rs n++[r] else rs n,⟨by rw [a4];exact k1.live,by rw [a4];exact k1.fi,hR,by rw [a3];exact h.lim,by rw [a4];exact hO,by rw [a4];have:=k1.few;have:=h.few;omega,by rw [a1];exact h.segsN,fun n hn=>?_,fun n hn=>by rw [a2];rw [a1] at hn;exact h.top n hn⟩,fun n hn=>?_,fun _=>?_⟩
  ·rw [a1] at hn
   rw [a4]
   by_cases e:n=L.last
   ·rw [if_pos e,e,hv,Zry]
    refine ⟨rfl,fun y hy=>?_⟩
    rcases List.mem_append.1 hy with hy | hy
    ·exact q2 y hy
    ·rw [List.mem_singleton.1 hy];exact hr
   ·rw [if_neg e,k1.same _ fun e2=>e (Ziz (h.r.seg hn) e2)]
    exact h.segs n hn
  ·dsimp only
   by_cases e:n=L.last
   ·rw [if_pos e];exact ⟨[r],rfl⟩
   ·rw [if_neg e];exact ⟨[],(List.append_nil _).symm⟩
  ·rw [e2]
   refine ⟨hr,⟨a2.symm,by rw [a2,a1];exact hl⟩,⟨rs L.last,by rw [a2,if_pos rfl],by rw [←hlen]⟩,?_,?_⟩
   ·dsimp only
    rcases hf with hf | hf
    ·exact .inl (by omega)
    ·exact .inr hf
   ·dsimp only
    omega
 ·have e2:(addLP L r).2.2.2.2≠0:=by
   unfold addLP
   rw [if_neg e0]
   exact e0
  refine ⟨rs,⟨by rw [a4];exact k1.live,by rw [a4];exact k1.fi,hR,by rw [a3];exact h.lim,by rw [a4];exact hO,by rw [a4];have:=k1.few;have:=h.few;omega,by rw [a1];exact h.segsN,fun n hn=>?_,fun n hn=>by rw [a2];rw [a1] at hn;exact h.top n hn⟩,fun n hn=>⟨[],(List.append_nil _).symm⟩,fun e=>absurd e e2⟩
  rw [a1] at hn
  rw [a4]
  by_cases e:n=L.last
  ·rw [e,hv]
   exact ⟨rfl,q2⟩
  ·rw [k1.same _ fun e2=>e (Ziz (h.r.seg hn) e2)]
   exact h.segs n hn
theorem TL.ladd (h:TL T N Z L rs) (r:Rc):∃ rs',TL (T+6) (N+3) (Z+1) (laddP L r).1 rs'∧(∀ n∈L.man.segs,n∈(laddP L r).1.man.segs∧∃ more,rs' n=rs n++more)∧L.last≤(laddP L r).1.last∧(laddP L r).1.limit=L.limit ∧
 ((laddP L r).2.2.2.2=0→Put (laddP L r).1 rs' (laddP L r).2 r L.limit):=by
 unfold laddP
 by_cases hr:Zv r
 rotate_left 1
 ·rw [if_neg hr]
  exact ⟨rs,h.mono (by omega) (by omega) (by omega),fun n hn=>⟨hn,[],(List.append_nil _).symm⟩,Int.le_refl _,rfl,fun e=>(by cases e)⟩
 rw [if_pos hr]
 by_cases hf:fitsP L (frS r).length=true
 ·rw [if_pos hf]
  have hl:L.last≠-1:=fun e=>by unfold fitsP at hf;rw [e] at hf;simp at hf
  have hin:=h.r.last.resolve_left hl
  unfold fitsP at hf
  rw [decide_eq_false hl,Zeb,(h.segs _ hin).1] at hf
  simp only [Bool.not_false,Bool.true_and,Bool.or_eq_true,decide_eq_true_eq] at hf
  obtain ⟨rs',b1,b2,b3⟩:=h.adds hin r hf
  obtain ⟨a1,a2,a3,a4⟩:=Jt L r
  exact ⟨rs',b1.mono (by omega) (by omega) (by omega),fun n hn=>⟨by rw [a1];exact hn,b2 n hn⟩,by rw [a2];exact Int.le_refl _,a3,b3⟩
 ·rw [if_neg hf]
  obtain ⟨rs1,b1,b2,b3,b4,b5⟩:=h.roll
  by_cases he:(rollP L).2=0
  ·rw [if_pos he]
   obtain ⟨d1,d2⟩:=b5 he
   obtain ⟨a1,a2,a3,a4⟩:=Jt (rollP L).1 r
   obtain ⟨rs',c1,c2,c3⟩:=b1.adds d1 r (.inl (by rw [d2,Zgb];exact Int.le_refl 13))
   refine ⟨rs',c1,fun n hn=>?_,by rw [a2];exact b4,by rw [a3,b2],fun e=>b2 ▸ c3 e⟩
   obtain ⟨e1,e2⟩:=b3 n hn
   obtain ⟨more,e3⟩:=c2 n e1
   exact ⟨by rw [a1];exact e1,more,by rw [e3,e2]⟩
  ·rw [if_neg he]
   refine ⟨rs1,b1,fun n hn=>⟨(b3 n hn).1,[],by rw [(b3 n hn).2,List.append_nil]⟩,b4,b2,fun e=>absurd e he⟩
theorem TL.drop (h:TL T N Z L rs) (ds:List Int):TL (T+3+2*Z) (N+1) Z (dropP L ds).1 rs:=by
 obtain ⟨k1,k2,k3,k4⟩:=Zcq L ds
 have hR:=h.r.drop ds
 have hsv:Kp L.dk (Z7 L (Yo ds L.man.segs)).1.dk (fun n=>n=nmT∨n=nmM) 1:=by
  have:=Zr7 h.live h.fi ⟨Yo ds L.man.segs,L.man.next⟩
  unfold Z7
  split <;> exact this
 have hO:=h.ok.lsave (Yo ds L.man.segs)
 have hTM:∀ n,¬ (nmS n=nmT∨nmS n=nmM):=fun n e=>e.elim S_T S_M
 have hZ:=h.segsN
 by_cases he:(dropP L ds).2=0
 ·obtain ⟨hm,hmay⟩:=k3 he
  have hgo:=fun n (hn:n∈goesL ds L.man.segs)=>h.r.seg (List.mem_filter.1 hn).1
  have hrm:=removes_kp (goneN (goesL ds L.man.segs)) hsv.live hsv.fi
  have hdk:(dropP L ds).1.dk=Zt (goneN (goesL ds L.man.segs)) (Z7 L (Yo ds L.man.segs)).1.dk:=by
   unfold dropP at he ⊢
   rw [if_pos hmay] at he ⊢
   split at he
   ·rename_i h0
    rw [if_pos h0]
    rfl
   ·rename_i h0
    exact absurd he h0
  have kp:=(hsv.wider (Y:=fun y=>(y=nmT∨y=nmM)∨y∈goneN (goesL ds L.man.segs)) (fun _ e=>.inl e) (Nat.le_refl _)).trans (hrm.wider (fun _ e=>.inr e) (Nat.le_refl _))
  rw [←hdk] at kp
  refine h.after kp (fun n hn e=>?_) hR k2 ?_ (fun n hn=>?_) ?_ k1
  ·rw [hm] at hn
   have hn2:=List.mem_filter.1 hn
   rcases e with e | e
   ·exact hTM n e
   ·have:=(Zwk hgo (h.r.seg hn2.1)).1 e
    have h3:=(List.mem_filter.1 this).2
    simp only [decide_eq_true_eq] at h3
    have h4:=hn2.2
    simp [h3] at h4
  ·rw [hdk]
   refine (hO.removes _).mono ?_ (Nat.le_refl _)
   have:=Zm3 ds L.man.segs
   omega
  ·rw [hm] at hn
   exact (List.mem_filter.1 hn).1
  ·rw [hm]
   exact List.length_filter_le _ _
 ·have hm:=k4 he
  have hdk:(dropP L ds).1.dk=L.dk∨(dropP L ds).1.dk=(Z7 L (Yo ds L.man.segs)).1.dk:=by
   unfold dropP at he ⊢
   split
   ·rename_i hmay
    rw [if_pos hmay] at he
    split
    ·rename_i h0
     rw [if_pos h0] at he
     exact absurd rfl he
    ·exact .inr rfl
   ·exact .inl rfl
  have kp:Kp L.dk (dropP L ds).1.dk (fun n=>n=nmT∨n=nmM) 1:=by
   rcases hdk with e | e
   ·rw [e];exact (Kp.refl h.live h.fi _).wider (fun _ e=>e) (by omega)
   ·rw [e];exact hsv
  have ok:LOk (T+3+2*Z) 65599 (dropP L ds).1.dk:=by
   rcases hdk with e | e
   ·rw [e];exact h.ok.mono (by omega) (Nat.le_refl _)
   ·rw [e];exact hO.mono (by omega) (Nat.le_refl _)
  exact h.after kp (fun n _=>hTM n) hR k2 ok (fun n hn=>by rw [hm] at hn;exact hn) (by rw [hm];exact Nat.le_refl _) k1
theorem Zom (h:LgR L) {n:Int} (hn:n∈L.man.segs):Z9 L (nmS n)=false:=by
 have h1:=Jd 1 n (Zec (h.seg hn))
 unfold Z9
 rw [show nmS n=ofP 1 n from rfl,h1]
 dsimp only
 rw [show L.has n=true from decide_eq_true hn]
 rfl
end
end Go.Proofs.YtkelafkbmnjpeaaGreat
namespace Go.Proofs.YtkelafkbmnjpeaaGreat
open Go.RowKit
def OurN (x:Nm):Prop:=(∃ a:Int,0≤a∧a≤99999999∧(x=nmS a∨x=nmH a))∨x=nmM∨x=nmT
def NR (m:Dk):Prop:=m.names=redo m.pend m.kept
structure OL (m:Dk):Prop where
 live:Live m
 fi:FI m
 nr:NR m
 names:∀ x,vw m x≠none→OurN x
 man:vw m nmM=none∨∃ y,Z1 y=true∧vw m nmM=some (putM y)
theorem Zr5 (cs:List Ch) (c:Ch) (l:Dir):redo (cs++[c]) l=c.on (redo cs l):=by
 unfold redo
 rw [List.foldl_append]
 rfl
section
variable {m m':Dk} {n:Nm}
theorem NR.change (h:NR m) (c:Ch):NR (m.change c):=by
 show c.on m.names=redo (m.pend++[c]) m.kept
 rw [Zr5,show m.names=_ from h]
theorem NR.thing (h:NR m) (does:Dk→Dk) (hd:∀ x:Dk,NR x→NR (does x)):NR (m.thing does).1:=by
 unfold Dk.thing
 split
 ·exact h
 split
 ·exact h
 split
 ·exact h
 ·exact hd m.sooner h
theorem NR.create (h:NR m) (n:Nm):NR (m.create n).1:=by
 unfold Dk.create
 split
 ·exact h
 split
 ·exact h
 split
 ·exact h
 split
 ·exact h
 ·exact h.thing _ fun x hx=>NR.change (m:={ x with files:=_,made:=_ }) hx _
theorem NR.append (h:NR m) (n:Nm) (b:List UInt8):NR (m.append n b).1:=by
 unfold Dk.append
 split
 ·exact h
 split
 ·exact h
 split
 ·exact h
 ·exact h.thing _ fun x hx=>hx
theorem NR.sync (h:NR m) (n:Nm):NR (m.sync n).1:=by
 unfold Dk.sync
 split
 ·exact h
 split
 ·exact h
 ·exact h.thing _ fun x hx=>hx
theorem NR.rename (h:NR m) (n to:Nm):NR (m.rename n to).1:=by
 unfold Dk.rename
 split
 ·exact h
 split
 ·exact h
 split
 ·exact h
 ·exact h.thing _ fun x hx=>NR.change (m:={ x with used:=_ }) hx _
theorem NR.remove (h:NR m) (n:Nm):NR (m.remove n).1:=by
 unfold Dk.remove
 split
 ·exact h
 split
 ·exact h
 ·exact h.thing _ fun x hx=>NR.change (m:={ x with used:=_ }) hx _
theorem NR.syncDir (h:NR m):NR m.syncDir.1:=h.thing _ fun x hx=>by
 show x.names=redo [] (redo (x.pend.take x.pend.length) x.kept)
 rw [List.take_length]
 exact hx
theorem OL.of (h:OL m) (hl:Live m') (hi:FI m') (hn:NR m') (hs:SameV m m'):OL m' :=
 ⟨hl,hi,hn,fun x hx=>h.names x (by rw [←hs x];exact hx),by rw [hs nmM];exact h.man⟩
theorem OL.put (h:OL m) (hl:Live m') (hi:FI m') (hn:NR m') (hM:n≠nmM) {b:Option (List UInt8)} (ho:b≠none→OurN n) (hs:∀ x,vw m' x=if x=n then b else vw m x):OL m' :=
 ⟨hl,hi,hn,fun x hx=>by
  rw [hs x] at hx
  split at hx
  ·rename_i e;rw [e];exact ho hx
  ·exact h.names x hx,by rw [hs nmM,if_neg fun e=>hM e.symm];exact h.man⟩
theorem OL.create (h:OL m) (hn:OurN n) (hM:n≠nmM):OL (m.create n).1:=by
 obtain ⟨k1,k2,⟨_,_,k3⟩ | ⟨_,k3⟩⟩:=Zbc h.fi h.live n
 ·exact h.put k1 k2 (h.nr.create n) hM (fun _=>hn) k3
 ·exact h.of k1 k2 (h.nr.create n) k3
theorem OL.append (h:OL m) (hM:n≠nmM) (b:List UInt8):OL (m.append n b).1:=by
 obtain ⟨k1,k2,⟨_,old,h0,k3⟩ | ⟨_,k3⟩⟩:=J8 h.fi h.live n b
 ·exact h.put k1 k2 (h.nr.append n b) hM (fun _=>h.names n (by rw [h0];simp)) k3
 ·exact h.of k1 k2 (h.nr.append n b) k3
theorem OL.sync (h:OL m) (n:Nm):OL (m.sync n).1:=by
 obtain ⟨k1,k2,k3⟩:=Zgh h.fi h.live n
 exact h.of k1 k2 (h.nr.sync n) k3
theorem OL.syncDir (h:OL m):OL m.syncDir.1:=by
 obtain ⟨k1,k2,k3⟩:=Zel h.fi h.live
 exact h.of k1 k2 h.nr.syncDir k3
theorem OL.fail (h:OL m) (x:Int):OL (m.setFail x):=by
 obtain ⟨k1,k2,k3⟩:=Zem h.fi h.live x
 exact h.of k1 k2 h.nr k3
theorem OL.remove (h:OL m) (hM:n≠nmM):OL (m.remove n).1:=by
 obtain ⟨k1,k2,⟨_,k3⟩ | ⟨_,k3⟩⟩:=Zgj h.fi h.live n
 ·exact h.put k1 k2 (h.nr.remove n) hM (fun e=>absurd rfl e) k3
 ·exact h.of k1 k2 (h.nr.remove n) k3
theorem T_M:nmT≠nmM:=by decide
theorem our_T:OurN nmT:=.inr (.inr rfl)
theorem OL.rename (h:OL m) {x:Mn} (hx:Z1 x=true) (hT:vw m nmT=some (putM x)):OL (m.rename nmT nmM).1:=by
 obtain ⟨k1,k2,⟨_,_,old,h0,k3⟩ | ⟨_,k3⟩⟩:=Zgi h.fi h.live nmT nmM
 ·rw [hT] at h0
  injection h0 with h0
  subst h0
  refine ⟨k1,k2,h.nr.rename _ _,fun y hy=>?_,.inr ⟨x,hx,by rw [k3,if_pos rfl]⟩⟩
  rw [k3 y] at hy
  split at hy
  ·rename_i e;exact .inr (.inl e)
  split at hy
  ·exact absurd rfl hy
  ·exact h.names y hy
 ·exact h.of k1 k2 (h.nr.rename _ _) k3
theorem OL.save (h:OL m) (x:Mn):OL (saveP m x).1:=by
 unfold saveP
 split
 rotate_left 1
 ·exact h
 rename_i hx
 unfold Yj
 simp only [seqP]
 have h1:OL (leftP m).1:=by
  unfold leftP
  split
  ·exact h.remove T_M
  ·exact h
 split
 rotate_left 1
 ·exact h1
 obtain ⟨m1,hm1⟩:∃ y,(leftP m).1=y:=⟨_,rfl⟩
 rw [hm1] at h1 ⊢
 have h2:=h1.create our_T T_M
 split
 rotate_left 1
 ·exact h2
 rename_i e2
 have v2:vw (m1.create nmT).1 nmT=some []:=by
  rcases (Zbc h1.fi h1.live nmT).2.2 with ⟨_,_,k⟩ | ⟨k,_⟩
  ·rw [k,if_pos rfl]
  ·exact absurd e2 k
 obtain ⟨m2,hm2⟩:∃ y,(m1.create nmT).1=y:=⟨_,rfl⟩
 rw [hm2] at h2 v2 ⊢
 have h3:=h2.append T_M (putM x)
 split
 rotate_left 1
 ·exact h3
 rename_i e3
 have v3:vw (m2.append nmT (putM x)).1 nmT=some (putM x):=by
  rcases (J8 h2.fi h2.live nmT (putM x)).2.2 with ⟨_,old,k0,k⟩ | ⟨k,_⟩
  ·rw [k,if_pos rfl]
   rw [v2] at k0
   injection k0 with k0
   rw [←k0]
   rfl
  ·exact absurd e3 k
 obtain ⟨m3,hm3⟩:∃ y,(m2.append nmT (putM x)).1=y:=⟨_,rfl⟩
 rw [hm3] at h3 v3 ⊢
 have h4:=h3.sync nmT
 split
 rotate_left 1
 ·exact h4
 have v4:vw (m3.sync nmT).1 nmT=some (putM x):=by rw [(Zgh h3.fi h3.live nmT).2.2 nmT];exact v3
 obtain ⟨m4,hm4⟩:∃ y,(m3.sync nmT).1=y:=⟨_,rfl⟩
 rw [hm4] at h4 v4 ⊢
 have h5:=h4.rename hx v4
 split
 rotate_left 1
 ·exact h5
 split
 ·exact h5.syncDir
 ·exact h5.syncDir
theorem our_S {a:Int} (h:0≤a∧a≤99999999):OurN (nmS a):=.inl ⟨a,h.1,h.2,.inl rfl⟩
theorem our_H {a:Int} (h:0≤a∧a≤99999999):OurN (nmH a):=.inl ⟨a,h.1,h.2,.inr rfl⟩
theorem OL.make (h:OL m) {a:Int} (ha:0≤a∧a≤99999999):OL (makeP m a).1:=by
 have h1:=h.create (our_S ha) S_M
 have h2:=h1.append (n:=nmS a) S_M (putB (Zz a))
 have h3:=h2.remove (n:=nmS a) S_M
 unfold makeP
 split
 ·split
  ·exact h2
  ·exact h3
 ·exact h1
theorem OL.write (h:OL m) {a:Int} (ha:0≤a∧a≤99999999):OL (Zcy m a):=by
 have h1:=h.create (our_H ha) H_M
 have h2:=h1.append (n:=nmH a) H_M (hintB (m.create (nmH a)).1 a)
 have h3:=h2.sync (nmH a)
 unfold Zcy Ze6
 simp only [seqP]
 split
 ·split
  ·split
   ·exact h3
   ·exact h3
  ·exact h2
 ·exact h1
theorem OL.removes:∀ (l:List Nm) {m:Dk},(∀ x∈l,x≠nmM)→OL m→OL (Zt l m)
 | [],_,_,h=>h
 | x :: l,m,hl,h=>OL.removes l (m:=(m.remove x).1) (fun y hy=>hl y (List.mem_cons_of_mem _ hy)) (h.remove (hl x (List.mem_cons_self ..)))
variable {L:Lg} {T S:Nat}
theorem OL.saveL (h:OL L.dk) (segs:List Int):OL (Z7 L segs).1.dk:=by
 have:=h.save ⟨segs,L.man.next⟩
 unfold Z7
 split <;> exact this
theorem OL.lsync (h:OL L.dk):OL (Zy L).1.dk:=by
 unfold Zy
 split
 ·exact h
 ·exact h.sync _
theorem OL.rollC (h:OL L.dk) (hl:L.last=-1∨(0≤L.last∧L.last≤99999999)) (n:Int):OL (rollC L n).dk:=by
 unfold Go.Proofs.YtkelafkbmnjpeaaGreat.rollC
 dsimp only
 split
 ·exact h
 ·rename_i e
  exact h.write (hl.resolve_left e)
theorem OL.rollA (h:OL L.dk) (hl:L.last=-1∨(0≤L.last∧L.last≤99999999)) {n:Int} (hn:0≤n∧n≤99999999):OL (rollA L n).1.dk:=by
 have h1:=h.make hn
 obtain ⟨M,hM⟩:∃ M,L.on (makeP L.dk n).1=M:=⟨_,rfl⟩
 have h2:OL M.dk:=by rw [←hM];exact h1
 have q2:M.last=L.last:=by rw [←hM];rfl
 unfold Go.Proofs.YtkelafkbmnjpeaaGreat.rollA
 rw [hM]
 split
 rotate_left 1
 ·exact h2
 have h3:=h2.saveL (M.man.segs++[n])
 unfold rollB
 split
 ·exact h3.rollC (by rw [(Je M (M.man.segs++[n])).1,q2];exact hl) n
 ·exact h3
theorem OL.roll (h:OL L.dk) (hr:LgR L):OL (rollP L).1.dk:=by
 have h1:=h.lsync
 obtain ⟨k1,k2,k3⟩:=Zcx L
 unfold rollP
 split
 rotate_left 1
 ·exact h1
 split
 ·exact h1
 rename_i h2
 have hge:=Zl5 (Zy L).1
 have hnx:=hr.next
 rw [k1] at hge
 exact OL.rollA (L:=(Zy L).1.next (lnumP (Zy L).1+1)) h1 (by show (Zy L).1.last=-1∨(0≤(Zy L).1.last∧(Zy L).1.last≤99999999);rw [k2];exact hr.lasts) (by omega)
theorem OL.addL (h:OL L.dk) (r:Rc):OL (addLP L r).1.dk:=by
 have h1:OL (addP L.dk L.last r).1:=by
  have:=h.append (n:=nmS L.last) S_M (frS r)
  unfold addP
  split
  ·split <;> exact this
  ·exact h
 unfold addLP
 split <;> exact h1
theorem OL.ladd (h:OL L.dk) (hr:LgR L) (r:Rc):OL (laddP L r).1.dk:=by
 unfold laddP
 split
 ·split
  ·exact h.addL r
  ·split
   ·exact (h.roll hr).addL r
   ·exact h.roll hr
 ·exact h
theorem Zwh {l:List Int}:∀ x∈goneN l,x≠nmM:=fun x hx=>by
 obtain ⟨a,_,ha⟩:=List.mem_flatMap.1 hx
 rcases List.mem_cons.1 ha with rfl | ha
 ·exact S_M
 ·rw [List.mem_singleton.1 ha];exact H_M
theorem OL.drop (h:OL L.dk) (ds:List Int):OL (dropP L ds).1.dk:=by
 have h1:=h.saveL (Yo ds L.man.segs)
 unfold dropP
 split
 ·split
  ·exact OL.removes _ Zwh h1
  ·exact h1
 ·exact h
theorem OL.new (x:Int):OL (Dk.new x):=⟨⟨rfl,Zea rfl⟩,FI.new _,rfl,fun n hn=>absurd (Zuw x n) hn,.inl (Zuw x nmM)⟩
end
end Go.Proofs.YtkelafkbmnjpeaaGreat
namespace Go.Proofs.YtkelafkbmnjpeaaGreat
open Go.RowKit
section
variable {m m':Dk} {L:Lg} {T S:Nat}
theorem Zuc (i:Nat):more [1048576] i=1048576:=by
 unfold more
 rw [if_neg (by simp)]
 simp [Nat.mod_one]
theorem OL.boot (h:OL m) (ok:LOk T S m) (hT:T≤1048576) (hS:2*S+4100≤1048576):OL (m.boot 1048576 [1048576])∧Well (m.boot 1048576 [1048576])∧SameV m (m.boot 1048576 [1048576]):=by
 obtain ⟨P,hb⟩:=ok
 have hp:=hb.pend
 have hk:(min (max (1048576:Int) 0) (m.pend.length:Int)).toNat=m.pend.length:=by omega
 have hn:(m.boot 1048576 [1048576]).names=m.names:=by
  show redo (m.pend.take (min (max (1048576:Int) 0) (m.pend.length:Int)).toNat) m.kept=_
  rw [hk,List.take_length]
  exact h.nr.symm
 have hs:SameV m (m.boot 1048576 [1048576]):=fun x=>by
  unfold vw
  rw [hn]
  cases hf:Dir.find x m.names with
  | none=>rfl
  | some f =>
    have hl:=hb.bytes f (h.fi.lt x f hf)
    refine congrArg some ?_
    show (if _ then (m.files f).lose (more [1048576] f) else m.files f:Fl).bytes=_
    split
    ·rw [Zuc]
     unfold Fl.lose
     dsimp only
     exact List.take_of_length_le (by omega)
    ·rfl
 have hw:Well (m.boot 1048576 [1048576]):=⟨rfl,Zea rfl,Zea rfl⟩
 exact ⟨h.of hw.live (h.fi.of hn rfl) rfl hs,hw,hs⟩
theorem OL.load (h:OL m) (hd:m.down=false):(loadP m).2.2=0:=by
 unfold loadP
 rcases h.man with e | ⟨y,hy,e⟩
 ·have hr:m.read nmM 0 (m.size nmM).1=(none,3):=by rw [Ziv hd,e]
  rw [hr,if_pos rfl]
 ·rw [Zug hd e,if_neg (show ¬ ((0:Int)=3) by decide),if_pos rfl]
  show (match getM (putM y) with | some x=>(x,true,0) | none=>(Mn.none,false,22):Mn×Bool×Int).2.2=0
  rw [Zsu hy]
theorem OL.opens (h:OL m) (hd:m.down=false) {n:Int} (hn:64≤n∧n≤65599):∃ L,openP m n=(some L,0)∧L.dk=m∧LgR L:=by
 have h0:=h.load hd
 have h1:openP m n=(some ⟨m,n,if (loadP m).2.1=true then (loadP m).1 else ⟨[],1⟩,-1⟩,0):=by
  unfold openP
  rw [if_neg (by omega),if_pos h0]
 exact ⟨_,h1,rfl,Zok (limit:=n) (m:=m) (by rw [h1])⟩
theorem Zud (hd:m.down=false) (hd':m'.down=false) {n:Int} (hv:vw m' (nmS n)=vw m (nmS n)):Ye m' n=Ye m n:=by
 have h1:m'.size (nmS n)=m.size (nmS n):=by rw [Zeb,Zeb,hv]
 have h2:∀ x k,m'.read (nmS n) x k=m.read (nmS n) x k:=fun x k=>by rw [Ziv hd,Ziv hd',hv]
 unfold Ye
 rw [h1,h2]
def recO (m:Dk) (n:Int):Nat:=if (Ye m n).2.2=0 then (Ye m n).1.length else 0
def recN (m:Dk) (l:List Int):Nat:=(l.map (recO m)).sum
theorem OL.clean (h:OL L.dk) (hw:Well L.dk) (hr:LgR L) :
 (J9 L).dk.down=false∧recN (J9 L).dk L.man.segs=recN L.dk L.man.segs∧∀ x∈(J9 L).dk.names.map (·.1),∃ k a:Int,parseP x=some (k,a)∧k≠4∧(k≤2→a∈L.man.segs):=by
 obtain ⟨k1,k2,k3⟩:=removes_well ((L.dk.names.map (·.1)).filter (Z9 L)) hw h.fi
 refine ⟨k1.down,congrArg List.sum (List.map_congr_left fun n hn=>?_),fun x hx=>?_⟩
 ·unfold recO
  rw [Zud (m':=(J9 L).dk) hw.down k1.down (by
   refine (k3 (nmS n)).trans (if_neg fun e=>?_)
   have:=(List.mem_filter.1 e).2
   rw [Zom hr hn] at this
   cases this)]
 ·have hv:=Zvz hx
  have h3:=k3 x
  rw [show vw (J9 L).dk x=_ from h3] at hv
  by_cases hm:x∈(L.dk.names.map (·.1)).filter (Z9 L)
  ·rw [if_pos hm] at hv
   exact absurd rfl hv
  rw [if_neg hm] at hv
  have hin:x∈L.dk.names.map (·.1):=by
   cases hf:Dir.find x L.dk.names with
   | none=>exact absurd (vw_none.2 hf) hv
   | some f=>exact List.mem_map.2 ⟨_,Zes hf,rfl⟩
  have hnb:Z9 L x=false:=by
   cases e:Z9 L x with
   | false=>rfl
   | true=>exact absurd (List.mem_filter.2 ⟨hin,e⟩) hm
  unfold Z9 at hnb
  rcases h.names x hv with ⟨a,h1,h2,rfl | rfl⟩ | rfl | rfl
  ·rw [show nmS a=ofP 1 a from rfl,Jd 1 a (Zec ⟨h1,h2⟩)] at hnb
   refine ⟨1,a,Jd 1 a (Zec ⟨h1,h2⟩),by decide,fun _=>?_⟩
   simpa [Lg.has] using hnb
  ·rw [show nmH a=ofP 2 a from rfl,Jd 2 a (Zux ⟨h1,h2⟩)] at hnb
   refine ⟨2,a,Jd 2 a (Zux ⟨h1,h2⟩),by decide,fun _=>?_⟩
   simpa [Lg.has] using hnb
  ·exact ⟨3,0,by decide,by decide,fun e=>absurd e (by decide)⟩
  ·rw [show parseP nmT=some (4,0) by decide] at hnb
   simp at hnb
end
end Go.Proofs.YtkelafkbmnjpeaaGreat
namespace Go.Proofs.YtkelafkbmnjpeaaGreat
open Go.RowKit
section
variable {B d l n c:Nat} {w0 w w':World} {out out':Nat→Prop} {A:Option Addr} {L:Lg}
theorem LgAt.off {w':World} {oth:Nat→Prop} (h:LgAt B w0 w d l out A n c L) (hs:Zc oth w w') (ho:∀ k,oth k→k < w.heap.size→out k) (hB:∀ k,oth k→B≤k):LgAt B w0 w' d l (fun k=>out k∨(w.heap.size≤k∧k < w'.heap.size)) A n c L:=by
 have hl:=h.lt
 have hAl:∀ ad,A=some ad→ad.block < w.heap.size:=fun ad e=>h.dk.lt (.inr (.inr ⟨ad,e,rfl⟩))
 obtain ⟨⟨own,G,h1,h2,h3,h4,h5,h6⟩,k2,k3,k4,k5,k6⟩:=h
 have hno:∀ k,oth k→k < w.heap.size→k≠l∧(∀ ad,A=some ad→k≠ad.block):=fun k hk hlt=>⟨fun e=>k5 (e ▸ ho k hk hlt),fun ad e e2=>(k6 ad e).2 (e2 ▸ ho k hk hlt)⟩
 refine ⟨⟨own,G,h1.spare hs fun k hk e=>?_,h2,h3,h4.trans (hs.below h5 fun k hk e=>by have:=hB k e;omega),Nat.le_trans h5 hs.size,fun k hk=>?_⟩,k2.same (hs.same _ hl fun e=>(hno l e hl).1 rfl),?_,k4,?_,?_⟩
 ·have:=h6 k (.inl (ho k e (h1.lt hk)))
  rcases hk with hk | hk
  ·exact this.2.1 hk
  ·exact this.2.2 hk
 ·rcases hk with (hk | hk) | hk | hk
  ·exact ⟨Nat.lt_of_lt_of_le (h6 k (.inl hk)).1 hs.size,(h6 k (.inl hk)).2⟩
  ·exact ⟨hk.2,fun e=>by have:=h1.top.lt;omega,fun e=>by have:=h1.rest.lt k e;omega⟩
  ·exact ⟨Nat.lt_of_lt_of_le (h6 k (.inr (.inl hk))).1 hs.size,(h6 k (.inr (.inl hk))).2⟩
  ·exact ⟨Nat.lt_of_lt_of_le (h6 k (.inr (.inr hk))).1 hs.size,(h6 k (.inr (.inr hk))).2⟩
 ·refine Z2 k3 fun k hk=>hs.same k (k3.lt k hk).2 fun e=>?_
  rcases Yl k3 with ⟨rfl,_⟩ | ⟨g,rfl,_,hg⟩
  ·cases hk
  ·injection hk with hk
   rw [←hk] at e
   exact (hno g e hg).2 _ rfl rfl
 ·rintro (e | e)
  ·exact k5 e
  ·omega
 ·intro ad e
  refine ⟨(k6 ad e).1,?_⟩
  rintro (e2 | e2)
  ·exact (k6 ad e).2 e2
  ·have:=hAl ad e;omega
theorem LgIn.dkIn (h:LgIn B w0 w d l out L):DkIn B w0 w d out L.dk:=by
 obtain ⟨A,n,c,h⟩:=h
 exact h.dk.less fun k hk=>.inl hk
theorem LgIn.more (h:LgIn B w0 w d l out L) (hg:Grows w w'):LgIn B w0 w' d l (fun k=>out k∨(w.heap.size≤k∧k < w'.heap.size)) L:=by
 obtain ⟨A,n,c,h⟩:=h
 exact (h.more hg).in
structure OwnG (B:Nat) (w:World) (out:Nat→Prop) (t:TypeId) (sz:Nat) (A:Option Addr) (n c:Nat) (xs:List Value):Prop where
 own:w.ownsRow B t sz (.slice A n c) n xs
 mine:∀ g,(Value.slice A n c).ownBlock=some g→out g
variable {t:TypeId} {sz:Nat} {xs:List Value}
theorem OwnG.stays (h:OwnG B w out t sz A n c xs) (hs:Stays B out w w'):OwnG B w' out t sz A n c xs:=⟨Z2 h.own fun k hk=>hs.same k (h.own.lt k hk).2 fun e=>e.2 (h.mine k hk),h.mine⟩
theorem OwnG.grow (h:OwnG B w out t sz A n c xs) (hg:Grows w w'):OwnG B w' out t sz A n c xs:=⟨Zd h.own hg,h.mine⟩
end
end Go.Proofs.YtkelafkbmnjpeaaGreat
set_option maxRecDepth 100000
namespace Go.Proofs.YtkelafkbmnjpeaaGreat
open Go.ChangeShapes Go.WideShapes Go.ChangeAt Go.RowKit
section
variable {H:Type} {enc:TypeId×Value→H} {W:World} {base:Nat} {r:Reach}
theorem Zr9 {m:Nat} {a:Value} {x:DataW H×List MemPlace} (h:DataW.trod enc Tryz.prog W 0 (fun _=>true) true m 36 [a]=some x):∃ A n c ls,a=.slice A n c∧Locs W A n c ls:=by
 have ce:Tryz.prog.cellsOf 140=3:=by kernel_rfl
 have ci:Tryz.prog.cellsOf 3=1:=by kernel_rfl
 rcases DataW.trod_slice Tryz.underlying36 h with ⟨hcs,_⟩ | ⟨ad,len,cap,elems,rest,k,_,hcs,_,_,hl,_,hlen,hel,_⟩
 ·simp at hcs
  exact ⟨none,0,0,[],hcs,Locs.nil _⟩
 ·simp at hcs
  have each:∀ i,i < len→∃ l:Lc,W.cell? (ad.add (i*3))=some (.int .i64 l.1)∧W.cell? (ad.add (i*3+1))=some (.int .i64 l.2.1)∧W.cell? (ad.add (i*3+2))=some (.int .i64 l.2.2):=by
   intro i hi
   have h1:=hel i hi
   rw [ce,List.getElem?_eq_getElem (by omega)] at h1
   obtain ⟨cs',h2,h3⟩:=Option.bind_eq_some_iff.1 h1
   obtain ⟨_,hlen',hcell⟩:=World.cells?_some h2
   obtain ⟨ys,k',_,_,_,hyl,hf⟩:=DataW.trod_struct Tryz.underlying140 h3
   match ys,hyl,cs',hlen' with
   | [y0,y1,y2],_,[v0,v1,v2],_ =>
     have g0:DataW.trod enc Tryz.prog W 0 (fun _=>true) true k' 3 [v0]=some y0:=by
      have h:=hf 0 { name := "Seg", type:=3,offset:=0,embedded:=false,tag := "", pkgPath := "", byteOffset:=0 } rfl
      dsimp only at h
      rw [ci] at h
      exact h
     have g1:DataW.trod enc Tryz.prog W 0 (fun _=>true) true k' 3 [v1]=some y1:=by
      have h:=hf 1 { name := "At", type:=3,offset:=1,embedded:=false,tag := "", pkgPath := "", byteOffset:=8 } rfl
      dsimp only at h
      rw [ci] at h
      exact h
     have g2:DataW.trod enc Tryz.prog W 0 (fun _=>true) true k' 3 [v2]=some y2:=by
      have h:=hf 2 { name := "N", type:=3,offset:=2,embedded:=false,tag := "", pkgPath := "", byteOffset:=16 } rfl
      dsimp only at h
      rw [ci] at h
      exact h
     obtain ⟨z0,e0,_⟩:=DataW.trod_int Tryz.underlying3 g0
     obtain ⟨z1,e1,_⟩:=DataW.trod_int Tryz.underlying3 g1
     obtain ⟨z2,e2,_⟩:=DataW.trod_int Tryz.underlying3 g2
     have c0:=hcell 0 (by omega)
     have c1:=hcell 1 (by omega)
     have c2:=hcell 2 (by omega)
     rw [Jg] at c0 c1 c2
     simp at c0 c1 c2 e0 e1 e2
     subst e0 e1 e2
     exact ⟨(z0,z1,z2),c0,c1,c2⟩
  obtain ⟨f,hf⟩:=Go.Deep.choose_lt each
  refine ⟨some ad,len,cap,(List.range len).map f,hcs,by simp,hl,(fun h=>by cases h),⟨by rw [lcCells_length];simp,fun k v hv=>?_⟩⟩
  have hk:k < 3*len:=by
   rcases Nat.lt_or_ge k (3*len) with h | h
   ·exact h
   ·rw [List.getElem?_eq_none (by rw [lcCells_length];simpa using h)] at hv
    cases hv
  obtain ⟨i,j,e,hj,hi⟩:∃ i j,k=3*i+j∧j < 3∧i < len:=⟨k / 3,k % 3,by omega,by omega,by omega⟩
  have hg:((List.range len).map f)[i]?=some (f i):=by rw [List.getElem?_map,List.getElem?_range hi];rfl
  obtain ⟨g0,g1,g2⟩:=lcCells_get _ i _ hg
  obtain ⟨c0,c1,c2⟩:=hf i hi
  have hcell:W.cell? (ad.add k)=some v:=by
   match j,hj with
   | 0,_ =>
     subst e
     rw [show 3*i+0=3*i from rfl] at hv ⊢
     rw [g0] at hv
     rw [Nat.mul_comm,c0]
     exact hv
   | 1,_ =>
     subst e
     rw [g1] at hv
     rw [Nat.mul_comm,c1]
     exact hv
   | 2,_ =>
     subst e
     rw [g2] at hv
     rw [Nat.mul_comm,c2]
     exact hv
  exact ⟨ad,rfl,by have:=World.block_lt_of_cell? W _ hcell;rwa [Zk] at this,hcell⟩
end
end Go.Proofs.YtkelafkbmnjpeaaGreat
namespace Go.Proofs.YtkelafkbmnjpeaaGreat
open Go.ChangeShapes Go.WideShapes Go.ChangeAt Go.RowKit
instance:Inhabited (Rc×Fh):=⟨(Rc.none,((Option.none,0,0),(Option.none,0,0)))⟩
def rcL (x:Rc) (p:Fh):List Value:=[.int .i64 x.kind,.string ⟨x.key.toArray⟩,.int .i64 x.id,.int .i64 x.no,.int .i64 x.size,.slice p.1.1 p.1.2.1 p.1.2.2,.slice p.2.1 p.2.2.1 p.2.2.2]
structure Recs (w:World) (A:Option Addr) (n c:Nat) (rs:List Rc):Prop where
 len:rs.length=n
 cap:n≤c
 spot:∀ i,i < n→∃ (ad:Addr) (r:Rc) (p:Fh),A=some ad∧ad.block < w.heap.size∧rs[i]?=some r∧RcIn w p.1.1 p.1.2.1 p.1.2.2 p.2.1 p.2.2.1 p.2.2.2 r∧∀ k,k < 7→w.cell? ((ad.add (i*7)).add k)=(rcL r p)[k]?
section
variable {H:Type} {enc:TypeId×Value→H} {W:World} {base:Nat} {r:Reach}
end
end Go.Proofs.YtkelafkbmnjpeaaGreat
namespace Go.Proofs.YtkelafkbmnjpeaaGreat
open Go.RowKit
structure ST (L:Lg) (rs:Int→List Rc) (st:List (Int×Int×Rc)):Prop where
 there:∀ s∈st,s.1∈L.man.segs∧∃ us bs,rs s.1=us++s.2.2 :: bs∧s.2.1=((13+(Zkh us).length:Nat):Int)
 sorted:st.Pairwise fun a b=>a.1≤b.1
section
variable {T N Z:Nat} {L L':Lg} {rs rs':Int→List Rc} {st:List (Int×Int×Rc)}
def stE (p:(Int×Int×Rc)×Fh):List Value:=[.int .i64 p.1.1,.int .i64 p.1.2.1,.int .i64 p.1.2.2.kind,.string ⟨p.1.2.2.key.toArray⟩,.int .i64 p.1.2.2.id,.int .i64 p.1.2.2.no,.int .i64 p.1.2.2.size,.slice p.2.1.1 p.2.1.2.1 p.2.1.2.2,.slice p.2.2.1 p.2.2.2.1 p.2.2.2.2]
structure AllS (B:Nat) (w0 w:World) (out:Nat→Prop) (A:Option Addr) (q c:Nat) (st:List ((Int×Int×Rc)×Fh)):Prop where
 own:OwnG B w out 64 9 A q c (st.flatMap stE)
 len:st.length=q
 recs:∀ p∈st,RcIn w0 p.2.1.1 p.2.1.2.1 p.2.1.2.2 p.2.2.1 p.2.2.2.1 p.2.2.2.2 p.1.2.2
variable {B q c:Nat} {w0 w w':World} {out out':Nat→Prop} {A:Option Addr} {l:List ((Int×Int×Rc)×Fh)}
end
end Go.Proofs.YtkelafkbmnjpeaaGreat
