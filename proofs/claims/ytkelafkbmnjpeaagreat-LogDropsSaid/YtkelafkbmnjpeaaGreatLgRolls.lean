import Derived.Test.YtkelafkbmnjpeaaGreatMG38
import Derived.Test.YtkelafkbmnjpeaaGreatMG35
namespace Go.Proofs.YtkelafkbmnjpeaaGreat
open Go.RowKit

theorem rightF_of:∀ {l:List Ht} {d:List UInt8},(∀ h∈l,Zam h=true∧bytesBefore d h.key=true)→Zbc l→rightF d l=true
 | [],_,_,_=>rfl
 | x :: l,d,h,hr=>by
   obtain ⟨h1,h2⟩:=h x (List.mem_cons_self ..)
   have hp:=List.pairwise_cons.1 hr
   rw [rightF,h1,h2,rightF_of (fun y hy=>⟨(h y (List.mem_cons_of_mem _ hy)).1,hp.1 y hy⟩) hp.2]
   rfl
theorem Zvm (l:List Fd):∀ h∈hofP l,∃ f∈l,toldF f=true∧h=Zak f:=by
 refine Zd9 (p:=fun l=>∀ h∈hofP l,∃ f∈l,toldF f=true∧h=Zak f) (fun h hh=>(by cases hh)) (fun l f ih h hh=>?_) l
 rw [Zd8] at hh
 have up:h∈hofP l→∃ g∈l++[f],toldF g=true∧h=Zak g:=fun hm=>by
  obtain ⟨g,h1,h2⟩:=ih h hm
  exact ⟨g,List.mem_append_left _ h1,h2⟩
 split at hh
 ·rename_i ht
  unfold hput at hh
  rcases Zjv.1 hh with rfl | hm
  ·exact ⟨f,List.mem_append_right _ (List.mem_singleton.2 rfl),ht,rfl⟩
  ·exact up (List.mem_filter.1 hm).1
 ·exact up hh
theorem Zm1 {n:Int} {l:List Rc} (hr:∀ r∈l,Zp r) (hl:(segB n l).length≤1073741824):J3 (Zab (foundL l 13))=true:=by
 refine rightF_of (fun h hh=>?_) (Zn2 _)
 obtain ⟨f,hf,ht,rfl⟩:=Zvm _ h hh
 obtain ⟨g,hg,rfl⟩:=List.mem_map.1 hf
 obtain ⟨i,hi⟩:=List.mem_iff_getElem?.1 hg
 obtain ⟨us,r,bs,hrs,_,hxe⟩:=foundL_at l i 13 g hi
 subst hrs
 subst hxe
 have hrr:=hr r (List.mem_append_right _ (List.mem_cons_self ..))
 have h1:=Yv r
 have h2:9≤(frS r).length:=by
  rw [Zco hrr,Zh]
  have:=Zfx hrr
  unfold Good at this
  omega
 have h3:13+(Yp us).length≤1073741824:=by
  rw [Yg] at hl
  unfold Yp at hl ⊢
  rw [List.map_append,putL_append,List.length_append] at hl
  omega
 unfold toldF at ht
 rw [Bool.and_eq_true] at ht
 refine ⟨?_,?_⟩
 ·unfold Zam
  simp only [Bool.and_eq_true,decide_eq_true_eq]
  refine ⟨⟨⟨ht.1,ht.2⟩,?_⟩,?_⟩
  ·show (0:Int)≤((13+(Yp us).length:Nat):Int)∧((13+(Yp us).length:Nat):Int)≤1073741824
   omega
  ·show (9:Int)≤((frS r).length:Int)∧((frS r).length:Int)≤8200
   omega
 ·have hk:keyB r.key=true:=ht.2
  show bytesBefore [] r.key=true
  cases hkk:r.key with
  | nil=>rw [hkk] at hk;cases hk
  | cons a b=>rfl
section
variable {k:Nat} {L:Lg} {rs:Int→List Rc}
theorem LW.hints (h:LW k L rs) (hk:k≤122) {n:Int} (hn:n∈L.man.segs) (hl:n≠L.last):Jv L n=some (Zab (foundL (rs n) 13)):=by
 obtain ⟨q1,q2,q3⟩:=h.segs n hn
 obtain ⟨U,hws,_⟩:=h.ws
 have hb:(segB n (rs n)).length≤1073741824:=by omega
 unfold Jv
 rw [if_pos (show L.has n=true from decide_eq_true hn),Zj3 hws.well.down (h.hint n hn hl),Yq,q1]
 dsimp only
 rw [if_pos rfl]
 show getH (Zhg n (rs n)) _=_
 unfold Zhg
 rw [Zu0 (Zm1 q2 hb) (by unfold okS;rw [Bool.and_eq_true,decide_eq_true_eq,decide_eq_true_eq];omega),if_pos rfl]
theorem LW.unhinted (h:LW k L rs) {n:Int} (hn:n∈L.man.segs) (hl:n=L.last):Jv L n=none:=by
 obtain ⟨U,hws,_⟩:=h.ws
 unfold Jv
 rw [if_pos (show L.has n=true from decide_eq_true hn),Zbx hws.well.down,h.nohint n (h.r.seg hn) (.inr hl)]
 rfl
theorem LW.lok {T S S':Nat} (h:LW k L rs) (ok:LOk T S L.dk) (hl:L.last≠-1) (r:Rc) (hS:S≤S') (h1:(segB L.last (rs L.last)).length+(frS r).length≤S'):LOk T S' (addLP L r).1.dk:=by
 have e:(addLP L r).1.dk=(addP L.dk L.last r).1:=by unfold addLP;split <;> rfl
 rw [e]
 unfold addP
 split
 ·have hz:(L.dk.size (nmS L.last)).1=((segB L.last (rs L.last)).length:Int):=by rw [Yq,(h.segs _ (h.lastIn hl)).1]
  have:=ok.append (S':=S') (nmS L.last) (frS r) hS (fun _=>by omega) (by omega)
  split <;> exact this
 ·exact ok.mono (Nat.le_refl _) hS
end
structure RO (i:Nat) (L:Lg) (lv:Int):Prop where
 lw:∃ rs,LW (2*i) L rs∧∀ n∈L.man.segs,(segB n (rs n)).length≤8213
 ok:LOk (12*i) 8213 L.dk
 len:L.man.segs.length=i
 lt:0≤lv∧lv < L.man.next∧(0 < lv→lv∈L.man.segs∧lv=L.last)
theorem RO.new:RO 0 (LG0 1048576) 0:=⟨⟨_,LW.new (by omega),fun n hn=>(by cases hn)⟩,(LOk.new _).mono (Nat.le_refl _) (Nat.le_refl _),rfl,Int.le_refl _,show (0:Int) < 1 by omega,fun h=>absurd h (by omega)⟩
structure RM (i:Nat) (L:Lg) (lv n:Int):Prop where
 lw:∃ rs,LW (2*i+1) L rs∧(∀ n∈L.man.segs,(segB n (rs n)).length≤8213)∧rs L.last=[]
 ok:LOk (12*i+6) 8213 L.dk
 len:L.man.segs.length=i+1
 last:L.last=n∧n∈L.man.segs∧n < L.man.next
 lt:0≤lv∧lv < n∧(0 < lv→lv∈L.man.segs)
section
variable {i:Nat} {L:Lg} {lv n:Int}
theorem RO.r (h:RO i L lv):LgR L:=by obtain ⟨rs,h1,_⟩:=h.lw;exact h1.r
theorem RM.r (h:RM i L lv n):LgR L:=by obtain ⟨rs,h1,_⟩:=h.lw;exact h1.r
theorem RO.roll (h:RO i L lv) (hi:i≤50):(rollP L).2=0∧RM i (rollP L).1 lv L.man.next:=by
 obtain ⟨rs,h1,h2⟩:=h.lw
 obtain ⟨m',e1,e2⟩:=h1.roll (by omega)
 have ho:=h.ok.roll (by omega) h1.r.lasts
 rw [e1] at ho ⊢
 have hnot:=h1.nextNot
 have hno:∀ n∈L.man.segs,n≠L.man.next:=fun n hn e=>hnot (e ▸ hn)
 refine ⟨rfl,⟨_,e2,fun n hn=>?_,if_pos rfl⟩,ho,?_,⟨rfl,List.mem_append_right _ (List.mem_singleton.2 rfl),by show L.man.next < L.man.next+1;omega⟩,h.lt.1,h.lt.2.1,fun hlv=>List.mem_append_left _ (h.lt.2.2 hlv).1⟩
 ·rcases List.mem_append.1 hn with hn | hn
  ·rw [if_neg (hno n hn)];exact h2 n hn
  ·rw [if_pos (List.mem_singleton.1 hn),Yg];simp only [Yp,List.map_nil,putL,List.length_nil];omega
 ·show (L.man.segs++[L.man.next]).length=_
  rw [List.length_append,List.length_singleton,h.len]
theorem RM.next (h:RM i L lv n):RO (i+1) L n:=by
 obtain ⟨rs,h1,h2,h3⟩:=h.lw
 exact ⟨⟨rs,h1.mono (by omega),h2⟩,h.ok.mono (by omega) (Nat.le_refl _),h.len,by have:=h.lt;omega,h.last.2.2,fun _=>⟨h.last.2.1,h.last.1.symm⟩⟩
theorem RM.fits (h:RM i L lv n) (x:Int):fitsP L x=true:=by
 obtain ⟨rs,h1,h2,h3⟩:=h.lw
 have:=h.lt
 have hl:=h.last.1
 rw [h1.fits (by omega),h3,Yg]
 rfl
theorem RM.add (h:RM i L lv n) (hi:i≤50) (r:Rc):RO (i+1) (laddP L r).1 n:=by
 have hf:=h.fits (frS r).length
 unfold laddP
 by_cases hr:Zp r
 rotate_left 1
 ·rw [if_neg hr]
  exact h.next
 rw [if_pos hr,if_pos hf]
 obtain ⟨rs,h1,h2,h3⟩:=h.lw
 have hlt:=h.lt
 have hl:=h.last.1
 have hfs:=Yv r
 obtain ⟨m',e1,e2⟩:=h1.add (r:=r) (by omega) (by omega) hr
 have h13:(segB L.last (rs L.last)).length=13:=by rw [h3,Yg];rfl
 have ho:=h1.lok (S':=8213) h.ok (by omega) r (Nat.le_refl _) (by omega)
 rw [e1] at ho ⊢
 refine ⟨⟨_,e2.mono (by omega),fun k hk=>?_⟩,ho.mono (by omega) (Nat.le_refl _),h.len,by omega,h.last.2.2,fun _=>⟨h.last.2.1,hl.symm⟩⟩
 show (segB k (if k=L.last then rs k++[r] else rs k)).length≤8213
 by_cases e:k=L.last
 ·rw [if_pos e,e,Zhe,List.length_append];omega
 ·rw [if_neg e];exact h2 k hk
theorem RM.hinted (h:RM i L lv n) (hi:i≤50) (hlv:0 < lv):(Jv L lv).isSome=true:=by
 obtain ⟨rs,h1,h2,h3⟩:=h.lw
 rw [h1.hints (by omega) (h.lt.2.2 hlv) (by have:=h.lt;have:=h.last.1;omega)]
 rfl
theorem RM.own (h:RM i L lv n):(Jv L n).isSome=false:=by
 obtain ⟨rs,h1,h2,h3⟩:=h.lw
 rw [h1.unhinted h.last.2.1 h.last.1.symm]
 rfl
end
end Go.Proofs.YtkelafkbmnjpeaaGreat
