/-
  Texts that the statements lean on, one behind the other.
-/
import Derived.Test.YtkelafkbmnjpeaaGreatMG28
import Derived.Test.YtkelafkbmnjpeaaGreatMG32
set_option linter.unusedSimpArgs false
set_option linter.unusedVariables false
set_option maxHeartbeats 8000000
set_option maxRecDepth 100000
namespace Go.Proofs.YtkelafkbmnjpeaaGreat
open Go.Lib (hid)
open Go.RowKit Go.Maps Go.WideMaps
section
variable {B d l n c T S K:Nat} {w0 w:World} {out:Nat→Prop} {A:Option Addr} {L:Lg}
theorem LgAt.num {j:Nat} {L':Lg} {v:Value} (h:LgAt B w0 w d l out A n c L) (hdk:L'.dk=L.dk) (hs:L'.man.segs=L.man.segs) (hv:(lgC d A n c L).setIfInBounds j v=lgC d A n c L') :
 LgAt B w0 (w.setCell ⟨l,j,none⟩ v) d l out A n c L'∧Stays B out w (w.setCell ⟨l,j,none⟩ v):=by
 obtain ⟨h1,h2,h3,h4,h5,h6⟩:=h
 have hsp:Zc (fun k=>k=l) w (w.setCell ⟨l,j,none⟩ v):=(Zc.refl (fun k=>k=l) w).setCell (p:=⟨l,j,none⟩) rfl _
 have hrow:=h2.put j v
 rw [hv] at hrow
 refine ⟨⟨by rw [hdk];exact h1.other hsp (fun k e _=>.inr (.inl e)) fun k e=>by rw [e];exact h4,hrow,?_,h4,h5,h6⟩,hsp.wider fun k _ e=>by rw [e];exact ⟨h4,h5⟩⟩
 rw [hs]
 refine Zz h3 fun k hk=>hsp.same k (h3.lt k hk).2 ?_
 rcases Yk h3 with ⟨rfl,_⟩ | ⟨g,rfl,_⟩
 ·cases hk
 ·injection hk with hk
  rw [←hk]
  exact (h6 _ rfl).1
def LgTo (B:Nat) (w0:World) (d l:Nat) (out:Nat→Prop) (w:World) (r:Lg×Int) (e:Ending) (w':World):Prop:=e=.returned (.int .i64 r.2)∧LgIn B w0 w' d l out r.1∧Stays B out w w'
def blkB (B:Nat) (t:TypeId) (cs:Array Value) (n:Nat):Fact Grows:=⟨Nat,0,fun g=>.slice (some ⟨g,0,none⟩) n n,fun g w=>B≤g∧Whole w g t cs,fun _ _ _ h g=>⟨h.1,Grows.whole g h.2⟩⟩
theorem Zua {P:Program} {ops:Array Oper} {W:World} {Q:Act→World→Prop} {o:Oper} {rest:List Oper} {fs:List (Fact Grows)} {ks:Known} {a:Act} (t:TypeId) (cs:Array Value) (n:Nat) (hw:Region.wanted o (yielded ops a.tmps)=true) (h1:∀ w,Grows W w→(execOp a.eval o).run P w=.ok (.value (.slice (some ⟨w.heap.size,0,none⟩) n n)) (w.alloc (.cells cs t)))
 (h2:∀ g:Nat,wpF P ops Grows W Q rest fs ((o.dst,fun w=>W.heap.size≤g∧Whole w g t cs) :: ks) (a.put o.dst (.slice (some ⟨g,0,none⟩) n n))) :
 wpF P ops Grows W Q (o :: rest) (blkB W.heap.size t cs n :: fs) ks a:=by
 unfold wpF fStep
 rw [if_pos hw]
 refine ⟨fun w hW hk=>?_,fun g=>h2 g⟩
 unfold gives
 rw [h1 w hW]
 exact ⟨Zb w _,w.heap.size,rfl,hW.size,Whole.made w t cs⟩
def WrIn (B:Nat) (w0 w3:World) (d l b1 b2 g:Nat) (out:Nat→Prop) (A:Option Addr) (n c:Nat) (L:Lg) (la:Int) (T S:Nat) (j:Nat) (m:Dk) (w':World):Prop :=
 LgAt B w0 w' d l out A n c (L.on m)∧Stays B out w3 w'∧CloW out w' l b1 b2 la∧Whole w' g 126 #[.func (.func 129) #[.pointer (some ⟨d,0,none⟩)] #[],.func (.func 135) #[] #[.pointer (some ⟨b1,0,none⟩),.pointer (some ⟨b2,0,none⟩)],.func (.func 72) #[.pointer (some ⟨d,0,none⟩)] #[]]∧LOk (T+min j 1) S m∧(j=1→m.size (nmH la)=(0,true))
theorem Zmz (la:Int) (hla:0≤la∧la≤99999999) (w:World) (h:LgAt B w0 w d l out A n c L) (ok:LOk T S L.dk) (hT:T≤90000) (hS:S≤100000) :
 Calls Tryz.prog 77 #[.pointer (some ⟨l,0,none⟩),.int .i64 la] w fun e w'=>e=.returned (.tuple #[])∧LgAt B w0 w' d l out A n c (L.on (Zeo L.dk la))∧Stays B out w w':=by
 obtain ⟨b1,hb1⟩:∃ b,w.heap.size=b:=⟨_,rfl⟩
 obtain ⟨b2,hb2⟩:∃ b,b1+1=b:=⟨_,rfl⟩
 have hm1:=Whole.made w 29 #[.pointer (some ⟨l,0,none⟩)]
 have hg1:=Zb w (.cells #[.pointer (some ⟨l,0,none⟩)] 29)
 have hz1:=World.size_alloc w (.cells #[.pointer (some ⟨l,0,none⟩)] 29)
 obtain ⟨w1,hw1⟩:∃ y,w.alloc (.cells #[.pointer (some ⟨l,0,none⟩)] 29)=y:=⟨_,rfl⟩
 rw [hw1] at hm1 hg1 hz1
 have hm2:=Whole.made w1 3 #[.int .i64 la]
 have hg2:=Zb w1 (.cells #[.int .i64 la] 3)
 have hz2:=World.size_alloc w1 (.cells #[.int .i64 la] 3)
 obtain ⟨w2,hw2⟩:∃ y,w1.alloc (.cells #[.int .i64 la] 3)=y:=⟨_,rfl⟩
 rw [hw2] at hm2 hg2 hz2
 rw [hz1,hb1,hb2] at hm2
 rw [hb1] at hm1
 have hgt:=Grows.trans hg1 hg2
 have HF:=hid (fun w' (hg:Grows w2 w')=>h.fields (Grows.trans hgt hg))
 have HX:=hid (fun w' (hg:Grows w2 w')=>And.intro ((hg.whole (hg2.whole hm1)).cell 0) ((hg.whole hm2).cell 0))
 have hn:=fun w'=>nm_of 2 la w'
 rw [show ofP 2 la=nmH la from rfl] at hn
 obtain ⟨s,hs⟩:∃ s:ByteArray,(⟨(nmH la).toArray⟩:ByteArray)=s:=⟨_,rfl⟩
 simp only [hs] at hn
 have HN:=hid hn
 have HH:=hid h
 have HM:=hid (And.intro (hg2.whole hm1) (And.intro hm2 (And.intro hgt (show w2.heap.size=b1+2 by omega))))
 have HOK:=hid (And.intro ok (And.intro hT hS))
 have HS:=hid hs
 have HLA:=hid hla
 have HB1:=hid hb1
 have HB2:=hid hb2
 have hsz1:w1.heap.size=b2:=by omega
 clear h ok hT hS hm1 hm2 hg1 hg2 hgt hn hs hla hz1 hz2
 go_enter Tryz.func77,Tryz.ntmps77
 go_wp2_with (fail)
 clear hw1 hw2
 refine Zf (E:=Grows) 14 [Za (.int .i64 la),Za (.string s),Za (.pointer (some ⟨l,0,none⟩)),Za (.pointer (some ⟨l,0,none⟩)),Za (.pointer (some ⟨l,0,none⟩)),Za (.pointer (some ⟨d,0,none⟩)),Za (.func (.func 129) #[.pointer (some ⟨d,0,none⟩)] #[]),Za (.func (.func 135) #[] #[.pointer (some ⟨b1,0,none⟩),.pointer (some ⟨b2,0,none⟩)]),Za (.pointer (some ⟨l,0,none⟩)),Za (.pointer (some ⟨l,0,none⟩)),Za (.pointer (some ⟨l,0,none⟩)),Za (.pointer (some ⟨d,0,none⟩)),Za (.func (.func 72) #[.pointer (some ⟨d,0,none⟩)] #[]),blkB w2.heap.size 126 #[.func (.func 129) #[.pointer (some ⟨d,0,none⟩)] #[],.func (.func 135) #[] #[.pointer (some ⟨b1,0,none⟩),.pointer (some ⟨b2,0,none⟩)],.func (.func 72) #[.pointer (some ⟨d,0,none⟩)] #[]] 3] mixed (by kernel_rfl) (fun _ _ _=>Grows.trans) (Ze _) ?_
 simp only [List.take_succ_cons,List.take_zero,List.drop_succ_cons,List.drop_zero]
 refine f_val _ (by rfl) ?_ ?_
 ·intro w' hC;obtain ⟨y1,y2⟩:=HX.out w' hC;clear hC;go_simp
 simp only [Pu]
 refine Zv 73 #[.int .i64 2,.int .i64 la] (.string s) (by rfl) (by intro w' hC;clear hC;go_simp) ?_ ?_
 ·intro w' hC hks;exact HN.out w'
 simp only [Pu]
 refine f_val _ (by rfl) ?_ ?_
 ·intro w' hC;obtain ⟨y1,y2⟩:=HX.out w' hC;clear hC;go_simp
 simp only [Pu]
 iterate 2
  refine f_val _ (by rfl) ?_ ?_
  ·intro w' hC;clear hC;go_simp
  simp only [Pu]
 refine f_val _ (by rfl) ?_ ?_
 ·intro w' hC;obtain ⟨z0,z1,z2,z3,z4⟩:=HF.out w' hC;clear hC;go_simp
 simp only [Pu]
 iterate 2
  refine f_val _ (by rfl) ?_ ?_
  ·intro w' hC;clear hC;go_simp
  simp only [Pu]
 refine f_val _ (by rfl) ?_ ?_
 ·intro w' hC;obtain ⟨y1,y2⟩:=HX.out w' hC;clear hC;go_simp
 simp only [Pu]
 iterate 2
  refine f_val _ (by rfl) ?_ ?_
  ·intro w' hC;clear hC;go_simp
  simp only [Pu]
 refine f_val _ (by rfl) ?_ ?_
 ·intro w' hC;obtain ⟨z0,z1,z2,z3,z4⟩:=HF.out w' hC;clear hC;go_simp
 simp only [Pu]
 refine f_val _ (by rfl) ?_ ?_
 ·intro w' hC;clear hC;go_simp
 simp only [Pu]
 refine Zua 126 #[.func (.func 129) #[.pointer (some ⟨d,0,none⟩)] #[],.func (.func 135) #[] #[.pointer (some ⟨b1,0,none⟩),.pointer (some ⟨b2,0,none⟩)],.func (.func 72) #[.pointer (some ⟨d,0,none⟩)] #[]] 3 (by rfl) ?_ ?_
 ·intro w' hC;clear hC;go_simp
 intro g
 simp only [Pu]
 refine Zs ?_
 intro w3 hC hks
 have HCw3:=hid hC
 have HR:=hid (Known.at hks 0 rfl)
 clear hC hks
 have hr:w2.heap.size≤g∧Whole w3 g 126 #[.func (.func 129) #[.pointer (some ⟨d,0,none⟩)] #[],.func (.func 135) #[] #[.pointer (some ⟨b1,0,none⟩),.pointer (some ⟨b2,0,none⟩)],.func (.func 72) #[.pointer (some ⟨d,0,none⟩)] #[]]:=HR.out
 have hg3:Grows w w3:=Grows.trans HM.out.2.2.1 HCw3.out
 obtain ⟨out',hout'⟩:∃ o:Nat→Prop,(fun k=>out k∨(w.heap.size≤k∧k < w3.heap.size))=o:=⟨_,rfl⟩
 have hl3:=HH.out.more hg3
 rw [hout'] at hl3
 have hin:∀ k,out k→out' k:=fun k hk=>by rw [←hout'];exact .inl hk
 have hnew:∀ k,w.heap.size≤k→k < w3.heap.size→out' k:=fun k h1 h2=>by rw [←hout'];exact .inr ⟨h1,h2⟩
 have hsz:=HM.out.2.2.2
 have hsz3:=HCw3.out.size
 have hb1:=HB1.out
 have hb2:=HB2.out
 have hclo:CloW out' w3 l b1 b2 la:=⟨HCw3.out.whole HM.out.1,HCw3.out.whole HM.out.2.1,hnew _ (by omega) (by omega),hnew _ (by omega) (by omega)⟩
 have hog:out' g:=hnew g (by omega) hr.2.lt
 have ha:=Zfs s g 3 (Zhm la) (WrIn B w0 w3 d l b1 b2 g out' A n c L la T S) (fun m w'=>LgAt B w0 w' d l out' A n c (L.on m)∧Stays B out' w3 w') (fun j=>match j with
  | 0=>(129,#[.pointer (some ⟨d,0,none⟩)],#[])
  | 1=>(135,#[],#[.pointer (some ⟨b1,0,none⟩),.pointer (some ⟨b2,0,none⟩)])
  | _=>(72,#[.pointer (some ⟨d,0,none⟩)],#[])) rfl (by omega)
  (fun i m w' hi j hj=>by
    have hwh:=hi.2.2.2.1
    rw [hwh.cell j]
    match j,hj with
    | 0,_=>rfl
    | 1,_=>rfl
    | 2,_=>rfl)
  (fun j hj=>match j,hj with
    | 0,_=>enters_of Tryz.func129 (by kernel_rfl) rfl
    | 1,_=>enters_of Tryz.func135 (by kernel_rfl) rfl
    | 2,_=>enters_of Tryz.func72 (by kernel_rfl) rfl)
  (fun j m w' st hst hi=>by
    obtain ⟨i1,i2,i3,i4,i5,i6⟩:=hi
    have hTS:=HOK.out.2
    match j,hst with
    | 0,hst =>
      injection hst with hst
      subst hst
      refine (i1.dop (v:=.returned (.int .i64 (m.create (nmH la)).2)) (m':=(m.create (nmH la)).1) fun out' ho hd=>by rw [←HS.out];exact Ze0 (nmH la) hd i5.ok (by omega) (Zdy la) rfl rfl).mono ?_
      rintro e w4 ⟨rfl,k1,k2⟩
      exact ⟨rfl,⟨k1,i2.trans k2⟩,fun e=>⟨k1,i2.trans k2,i3.stays k2,Zo k2 i4 hog,i5.create _,fun _=>Zaz e⟩⟩
    | 1,hst =>
      injection hst with hst
      subst hst
      refine (Zti la HLA.out b1 b2 w' i1 i3 i5 (by omega) (by omega) HS.out).mono ?_
      rintro e w4 ⟨rfl,k1,k2⟩
      exact ⟨rfl,⟨k1,i2.trans k2⟩,fun e=>⟨k1,i2.trans k2,i3.stays k2,Zo k2 i4 hog,LOk.hints i5 HLA.out (i6 rfl),fun e=>by cases e⟩⟩
    | 2,hst =>
      injection hst with hst
      subst hst
      refine (i1.dop (v:=.returned (.int .i64 (m.sync (nmH la)).2)) (m':=(m.sync (nmH la)).1) fun out' ho hd=>by rw [←HS.out];exact Zkq (nmH la) hd i5.ok (by omega) (Zdy la) rfl rfl).mono ?_
      rintro e w4 ⟨rfl,k1,k2⟩
      exact ⟨rfl,⟨k1,i2.trans k2⟩,fun e=>⟨k1,i2.trans k2,i3.stays k2,Zo k2 i4 hog,i5.sync _,fun e=>by cases e⟩⟩
    | j+3,hst=>cases hst)
  (fun j m w' hi=>⟨hi.1,hi.2.1⟩)
  L.dk w3 ⟨hl3,Stays.grows (Grows.refl _),hclo,hr.2,HOK.out.1,fun e=>by cases e⟩
 have HA:=hid ha
 have HY:=hid (And.intro hg3 hin)
 clear hr hg3 hl3 hin hnew hsz hsz3 hb1 hb2 hclo hog ha hout' HR
 go_wp2_with (fail)
 refine HA.out.mono ?_
 rintro e w4 ⟨rfl,k1,k2⟩
 have HZ:=hid (And.intro k1 k2)
 clear k1 k2
 go_wp2_with (fail)
 refine bodyPost_end (results_none rfl _ _ _) rfl ?_
 exact ⟨rfl,HZ.out.1.less HY.out.2,(Stays.grows HY.out.1).trans (Zt HZ.out.2 HY.out.2)⟩
theorem Zek (nm:Nm) (hnm:nm.length≤1000000) (w:World) (h:LgAt B w0 w d l out A n c L) (ok:DkOk K L.dk) (hK:K≤90000000) {s:ByteArray} (hs:(⟨nm.toArray⟩:ByteArray)=s) :
 Calls Tryz.prog 79 #[.pointer (some ⟨l,0,none⟩),.string s] w fun e w'=>e=.returned (.tuple #[])∧LgAt B w0 w' d l out A n c (L.on (L.dk.remove nm).1)∧Stays B (lgO l A out) w w':=by
 obtain ⟨z0,z1,z2,z3,z4⟩:=h.fields (Grows.refl w)
 have hm1:=Whole.made w 126 #[.func (.func 133) #[.pointer (some ⟨d,0,none⟩)] #[]]
 have hg1:=Zb w (.cells #[.func (.func 133) #[.pointer (some ⟨d,0,none⟩)] #[]] 126)
 obtain ⟨w1,hw1⟩:∃ y,w.alloc (.cells #[.func (.func 133) #[.pointer (some ⟨d,0,none⟩)] #[]] 126)=y:=⟨_,rfl⟩
 rw [hw1] at hm1 hg1
 have hm:=h.more hg1
 have ha:=Zfs s w.heap.size 1 [fun m=>m.remove nm] (fun j m w'=>j=0∧m=L.dk∧LgAt B w0 w' d l (fun k=>out k∨(w.heap.size≤k∧k < w1.heap.size)) A n c (L.on m)∧Whole w' w.heap.size 126 #[.func (.func 133) #[.pointer (some ⟨d,0,none⟩)] #[]]∧Stays B (lgO l A (fun k=>out k∨(w.heap.size≤k∧k < w1.heap.size))) w1 w'∨j=1∧LgAt B w0 w' d l (fun k=>out k∨(w.heap.size≤k∧k < w1.heap.size)) A n c (L.on m)∧Stays B (lgO l A (fun k=>out k∨(w.heap.size≤k∧k < w1.heap.size))) w1 w'∧Whole w' w.heap.size 126 #[.func (.func 133) #[.pointer (some ⟨d,0,none⟩)] #[]])
  (fun m w'=>LgAt B w0 w' d l (fun k=>out k∨(w.heap.size≤k∧k < w1.heap.size)) A n c (L.on m)∧Stays B (lgO l A (fun k=>out k∨(w.heap.size≤k∧k < w1.heap.size))) w1 w') (fun _=>(133,#[.pointer (some ⟨d,0,none⟩)],#[])) rfl (by omega)
  (fun i m w' hi j hj=>by
    obtain rfl:j=0:=by omega
    have hwh:Whole w' w.heap.size 126 #[.func (.func 133) #[.pointer (some ⟨d,0,none⟩)] #[]]:=hi.elim (fun h=>h.2.2.2.1) fun h=>h.2.2.2
    exact hwh.cell 0)
  (fun j _=>enters_of Tryz.func133 (by kernel_rfl) rfl)
  (fun j m w' st hst hi=>by
    rcases hi with ⟨rfl,rfl,hi,hwh,hsy⟩ | ⟨rfl,_⟩
    ·injection hst with hst
     subst hst
     refine (hi.dopO (v:=.returned (.int .i64 (L.dk.remove nm).2)) (m':=(L.dk.remove nm).1) (by rw [←hs];exact Ze1 nm hi.dk ok (by omega) hnm rfl rfl)).mono ?_
     rintro e w2 ⟨rfl,h2,h1⟩
     exact ⟨rfl,⟨h1,hsy.trans h2⟩,fun _=>.inr ⟨rfl,h1,hsy.trans h2,Zo h2 hwh (.inl (.inr ⟨Nat.le_refl _,by rw [←hw1,World.size_alloc];omega⟩))⟩⟩
    ·cases hst)
  (fun j m w' hi=>hi.elim (fun h=>⟨h.2.2.1,h.2.2.2.2⟩) fun h=>⟨h.2.1,h.2.2.1⟩)
  L.dk w1 (.inl ⟨rfl,rfl,hm,hm1,Stays.grows (Grows.refl _)⟩)
 have HA:=hid ha
 have HG:=hid hg1
 clear h ha hm hm1 hg1 ok hs hnm
 go_enter Tryz.func79,Tryz.ntmps79
 go_wp2_with (fail)
 clear hw1
 refine HA.out.mono ?_
 rintro e w2 ⟨rfl,h1,h2⟩
 have HX:=hid (And.intro h1 h2)
 clear h1 h2
 go_wp2_with (fail)
 refine bodyPost_end (results_none rfl _ _ _) rfl ?_
 refine ⟨rfl,?_,(Stays.grows HG.out).trans (Zt HX.out.2 fun k hk=>hk.imp .inl id)⟩
 have hf:=HX.out.1.less (out':=out) fun k hk=>.inl hk
 rw [show seqP [fun m=>m.remove nm] L.dk=L.dk.remove nm by
  simp only [seqP]
  split
  ·rename_i he
   exact Prod.ext rfl he.symm
  ·rfl] at hf
 exact hf
theorem Zel (nm:Nm) (hnm:nm.length≤1000000) (w:World) (h:LgAt B w0 w d l out A n c L) (ok:DkOk K L.dk) (hK:K≤90000000) {s:ByteArray} (hs:(⟨nm.toArray⟩:ByteArray)=s) :
 Calls Tryz.prog 79 #[.pointer (some ⟨l,0,none⟩),.string s] w fun e w'=>e=.returned (.tuple #[])∧LgAt B w0 w' d l out A n c (L.on (L.dk.remove nm).1)∧Stays B out w w' :=
 (Zek nm hnm w h ok hK hs).mono fun e w' ⟨h1,h2,h3⟩=>⟨h1,h2,Zt h3 fun k hk=>.inl hk⟩
end
end Go.Proofs.YtkelafkbmnjpeaaGreat
set_option maxHeartbeats 16000000
set_option maxRecDepth 100000
namespace Go.Proofs.YtkelafkbmnjpeaaGreat
open Go.Lib (hid)
open Go.RowKit Go.Maps Go.WideMaps
section
variable {B d l n c T S K:Nat} {w0 w:World} {out:Nat→Prop} {A:Option Addr} {L:Lg}
theorem Zaa (L:Lg) (segs:List Int):(Z6 L segs).1.last=L.last∧(Z6 L segs).1.limit=L.limit∧((Z6 L segs).2=0→(Z6 L segs).1.man=⟨segs,L.man.next⟩)∧((Z6 L segs).2≠0→(Z6 L segs).1.man=L.man):=by
 unfold Z6
 split
 ·exact ⟨rfl,rfl,fun _=>rfl,fun h=>absurd rfl h⟩
 ·rename_i hne
  exact ⟨rfl,rfl,fun h=>absurd h hne,fun _=>rfl⟩
theorem Zol {l:List Int} {x:Int} (h:l.Pairwise (· < ·)) (hx:∀ n∈l,n < x):(l++[x]).Pairwise (· < ·):=by
 rw [List.pairwise_append]
 exact ⟨h,List.pairwise_singleton _ _,fun a ha b hb=>by rw [List.mem_singleton.1 hb];exact hx a ha⟩
theorem Zmy {m:Mn} (h:Ya m=true) {x:Int} (hx:m.next≤x∧x < 99999999) (hl:m.segs.length < 1000):Ya ⟨m.segs++[x],x+1⟩=true:=by
 obtain ⟨h1,h2,h3,h4,h5⟩:=Ym.1 h
 refine Ym.2 ⟨by rw [List.length_append];simp only [List.length_singleton];omega,Zol h2 fun n hn=>by have:=h3 n hn;omega,fun n hn=>?_,show 0≤x+1 by omega,show x+1≤99999999 by omega⟩
 show 0≤n∧n < x+1
 rcases List.mem_append.1 hn with hn | hn
 ·have:=h3 n hn;omega
 ·have:=List.mem_singleton.1 hn;omega
theorem LgR.nexts (h:LgR L) {x:Int} (hx:L.man.next≤x∧x < 99999999):LgR (L.next (x+1)):=by
 obtain ⟨h1,h2,h3,h4,h5⟩:=Ym.1 h.man
 exact ⟨Ym.2 ⟨h1,h2,fun n hn=>by have:=h3 n hn;show 0≤n∧n < x+1;omega,show 0≤x+1 by omega,show x+1≤99999999 by omega⟩,h.last,h.limit⟩
theorem LgR.rolled (h:LgR L) {x:Int} (hx:L.man.next≤x∧x < 99999999) (hl:L.man.segs.length < 1000):LgR (rollA (L.next (x+1)) x).1:=by
 have hn:=h.nexts hx
 unfold rollA
 split
 rotate_left 1
 ·exact hn.on _
 obtain ⟨M,hM⟩:∃ M,(L.next (x+1)).on (makeP (L.next (x+1)).dk x).1=M:=⟨_,rfl⟩
 have m1:M.man=⟨L.man.segs,x+1⟩:=by rw [←hM];rfl
 have m2:M.last=L.last:=by rw [←hM];rfl
 have m3:M.limit=L.limit:=by rw [←hM];rfl
 have hnm:Ya M.man=true:=by rw [←hM];exact hn.man
 rw [hM]
 obtain ⟨k1,k2,k3,k4⟩:=Zaa M (L.man.segs++[x])
 have hB:rollB M x=if (Z6 M (L.man.segs++[x])).2=0 then (rollC (Z6 M (L.man.segs++[x])).1 x,0) else Z6 M (L.man.segs++[x]):=by unfold rollB;rw [m1]
 rw [hB]
 generalize Z6 M (L.man.segs++[x])=q at *
 have hman:∀ L',(rollC L' x).man=L'.man∧(rollC L' x).limit=L'.limit:=fun L'=>by unfold rollC;split <;> exact ⟨rfl,rfl⟩
 rw [m1] at k3
 split
 ·rename_i he
  have hm:=k3 he
  refine ⟨?_,.inr ?_,?_⟩
  ·rw [(hman _).1,hm]
   exact Zmy h.man hx hl
  ·rw [(hman _).1,hm]
   exact List.mem_append_right _ (List.mem_singleton.2 rfl)
  ·rw [(hman _).2,k2,m3]
   exact h.limit
 ·rename_i he
  refine ⟨?_,?_,?_⟩
  ·rw [k4 he]
   exact hnm
  ·rw [k1,k4 he,m2,m1]
   exact h.last
  ·rw [k2,m3]
   exact h.limit
theorem LgR.roll (h:LgR L):LgR (rollP L).1:=by
 have h1:=h.sync
 obtain ⟨k1,k2,k3⟩:=Zb7 L
 unfold rollP
 split
 ·split
  ·exact h1
  ·rename_i hc
   simp only [not_or,Int.not_le] at hc
   exact h1.rolled ⟨Zop _,hc.1⟩ (by rw [k1];omega)
 ·exact h1
theorem Ju (L:Lg) (r:Rc):(addLP L r).1.man=L.man∧(addLP L r).1.last=L.last∧(addLP L r).1.limit=L.limit∧(addLP L r).1.dk=(addP L.dk L.last r).1:=by
 unfold addLP
 split <;> exact ⟨rfl,rfl,rfl,rfl⟩
theorem LgR.adds (h:LgR L) (r:Rc):LgR (addLP L r).1:=by
 obtain ⟨k1,k2,k3,k4⟩:=Ju L r
 exact ⟨by rw [k1];exact h.man,by rw [k1,k2];exact h.last,by rw [k3];exact h.limit⟩
theorem LgR.ladd (h:LgR L) (r:Rc):LgR (laddP L r).1:=by
 unfold laddP
 split
 ·split
  ·exact h.adds r
  ·split
   ·exact h.roll.adds r
   ·exact h.roll
 ·exact h
theorem LOk.adds {m:Dk} (h:LOk T S m) {n:Int} (hn:n=-1∨(0≤n∧n≤99999999)) (r:Rc):LOk T (S+(frS r).length) (addP m n r).1:=by
 unfold addP
 split
 ·have key:LOk T (S+(frS r).length) (m.append (nmS n) (frS r)).1:=by
   rcases hn with rfl | hn
   ·rw [show nmS (-1)=[] by kernel_rfl]
    unfold Dk.append
    split
    ·exact h.mono (Nat.le_refl _) (Nat.le_add_right _ _)
    ·split
     ·exact h.mono (Nat.le_refl _) (Nat.le_add_right _ _)
     ·rename_i f hf
      obtain ⟨P,hb⟩:=h
      split
      ·exact ⟨P,hb.mono (Nat.le_refl _) (Nat.le_add_right _ _)⟩
      ·have hap:=LOk.append ⟨P,hb⟩ [] (frS r) (Nat.le_add_right S (frS r).length) (fun e=>by cases e) (by
        rw [Zbp hf]
        have:=(hb.bytes f (hb.find hf).2.1).1
        show ((m.files f).bytes.length:Int)+_≤_
        omega)
       unfold Dk.append at hap
       rename_i hd _ hc
       rw [if_neg hd,hf] at hap
       dsimp only at hap
       rw [if_neg hc] at hap
       exact hap
   ·have hs:=h.size hn
    exact h.append _ _ (Nat.le_add_right _ _) (fun _=>by omega) (by omega)
  split <;> exact key
 ·exact h.mono (Nat.le_refl _) (Nat.le_add_right _ _)
theorem LgR.lasts (h:LgR L):L.last=-1∨(0≤L.last∧L.last≤99999999):=h.last.imp id fun e=>h.seg e
theorem LOk.ladd (h:LOk T S L.dk) (hr:LgR L) (hS:13≤S) (r:Rc):LOk (T+6) (S+(frS r).length) (laddP L r).1.dk:=by
 have h2:=h.roll hS hr.lasts
 unfold laddP
 split
 ·split
  ·rw [(Ju L r).2.2.2]
   exact (h.adds hr.lasts r).mono (by omega) (Nat.le_refl _)
  ·split
   ·rw [(Ju _ r).2.2.2]
    exact h2.adds hr.roll.lasts r
   ·exact h2.mono (Nat.le_refl _) (by omega)
 ·exact h.mono (by omega) (by omega)
theorem Zkg {m:Mn} (h:Ya m=true) (ds:List Int):Ya ⟨Yl ds m.segs,m.next⟩=true:=by
 obtain ⟨h1,h2,h3,h4,h5⟩:=Ym.1 h
 exact Ym.2 ⟨Nat.le_trans (List.length_filter_le _ _) h1,h2.sublist List.filter_sublist,fun n hn=>h3 n (List.mem_filter.1 hn).1,h4,h5⟩
theorem Zck (L:Lg) (ds:List Int):(dropP L ds).1.last=L.last∧(dropP L ds).1.limit=L.limit∧((dropP L ds).2=0→(dropP L ds).1.man=⟨Yl ds L.man.segs,L.man.next⟩∧Zcl L ds=true)∧((dropP L ds).2≠0→(dropP L ds).1.man=L.man):=by
 obtain ⟨k1,k2,k3,k4⟩:=Zaa L (Yl ds L.man.segs)
 unfold dropP
 split
 ·rename_i hm
  split
  ·rename_i he
   exact ⟨k1,k2,fun _=>⟨k3 he,hm⟩,fun h=>absurd rfl h⟩
  ·rename_i he
   exact ⟨k1,k2,fun h=>absurd h he,fun _=>k4 he⟩
 ·exact ⟨rfl,rfl,fun h=>(by cases h),fun _=>rfl⟩
theorem LgR.drop (h:LgR L) (ds:List Int):LgR (dropP L ds).1:=by
 obtain ⟨k1,k2,k3,k4⟩:=Zck L ds
 by_cases he:(dropP L ds).2=0
 ·obtain ⟨hm,hmay⟩:=k3 he
  refine ⟨by rw [hm];exact Zkg h.man ds,?_,by rw [k2];exact h.limit⟩
  rw [k1,hm]
  refine h.last.imp id fun e=>List.mem_filter.2 ⟨e,?_⟩
  by_cases hd:L.last∈ds
  ·unfold Zcl at hmay
   rw [List.all_eq_true] at hmay
   have:=hmay _ hd
   simp at this
  ·simp [hd]
 ·exact ⟨by rw [k4 he];exact h.man,by rw [k1,k4 he];exact h.last,by rw [k2];exact h.limit⟩
theorem Ziu (w:World) (h:LgAt B w0 w d l out A n c L) (hr:LgR L) (ok:LOk T S L.dk) (hT:T≤80000) (hS:13≤S∧S≤100000) :
 Calls Tryz.prog 38 #[.pointer (some ⟨l,0,none⟩)] w (LgTo B w0 d l out w (rollP L)):=by
 have hs1:=Ziy w h ok.ok (by omega)
 have hr1:=hr.sync
 have ok1:=LOk.lsync ok
 obtain ⟨k1,k2,k3⟩:=Zb7 L
 obtain ⟨r,hrr⟩:∃ r,rollP L=r:=⟨_,rfl⟩
 rw [hrr]
 unfold rollP at hrr
 obtain ⟨⟨L1,e1⟩,hq⟩:∃ q,Z5 L=q:=⟨_,rfl⟩
 rw [hq] at hs1 hr1 ok1 k1 k2 k3 hrr
 dsimp only at hs1 hr1 ok1 k1 k2 k3 hrr
 rw [←k1] at hrr
 have HS1:=hid hs1
 have HK:=hid (And.intro hr1 (And.intro ok1 (And.intro hT hS)))
 have hnl:=h.ints.len
 have HNL:=hid (show L1.man.segs.length=n by rw [k1];exact hnl)
 clear h hr ok hs1 hr1 ok1 k1 k2 k3 hq hT hS hnl
 go_enter Tryz.func38,Tryz.ntmps38
 go_wp2_with (fail)
 refine HS1.out.mono ?_
 rintro e w1 ⟨rfl,h1,st1⟩
 have H1:=hid h1
 have ST1:=hid st1
 clear h1 st1 HS1
 by_cases he1:e1=0
 rotate_left 1
 ·have heb:(e1 != 0)=true:=by rw [bne_iff_ne];exact he1
  rw [if_neg he1] at hrr
  subst hrr
  clear he1
  go_wp2_with (fail)
  go_ret
  exact ⟨rfl,H1.out.in,ST1.out⟩
 subst he1
 rw [if_pos rfl] at hrr
 have HN:=hid (Zkh w1 H1.out HK.out.1 HK.out.2.1 (by have:=HK.out;omega) (by have:=HK.out;omega))
 obtain ⟨x,hx⟩:∃ x,lnumP L1=x:=⟨_,rfl⟩
 have hge:=Zop L1
 rw [hx] at hrr HN hge
 have HNX:=hid (And.intro hge (And.intro hx HK.out.1.next))
 have HRR:=hid hrr
 clear hrr hge hx
 go_wp2_with (fail)
 refine HN.out.mono ?_
 rintro e w2 ⟨rfl,hg2⟩
 have H2:=hid (H1.out.grow hg2)
 have ST2:=hid (ST1.out.trans (Stays.grows hg2))
 clear hg2 HN
 obtain ⟨z0,z1,z2,z3,z4⟩:=H2.out.fields (Grows.refl w2)
 by_cases hbig:x≥99999999
 ·have hrr:=HRR.out
  rw [if_pos (.inl hbig)] at hrr
  subst hrr
  go_wp2_with (fail)
  go_ret
  exact ⟨rfl,H2.out.in,ST2.out⟩
 by_cases hmany:(n:Int)≥1000
 ·have hrr:=HRR.out
  rw [if_pos (.inr (by rw [HNL.out];omega))] at hrr
  subst hrr
  go_wp2_with (fail)
  go_ret
  exact ⟨rfl,H2.out.in,ST2.out⟩
 have hrr:=HRR.out
 rw [if_neg (by rw [HNL.out];omega)] at hrr
 have hx0:0≤x∧x < 99999999:=by have:=HNX.out;omega
 have e5:IntKind.i64.wrap (x+1)=x+1:=IntWalk.i64_in _ ⟨by omega,by omega⟩
 have f3:=H2.out.2.1.free 3
 obtain ⟨h3,st3⟩:=H2.out.num (j:=3) (L':=L1.next (x+1)) (v:=.int .i64 (x+1)) rfl rfl rfl
 obtain ⟨y0,y1,y2,y3,y4⟩:=h3.fields (Grows.refl _)
 have hr3:LgR (L1.next (x+1)):=HK.out.1.nexts ⟨HNX.out.1,hx0.2⟩
 obtain ⟨L3,hL3⟩:∃ L3,L1.next (x+1)=L3:=⟨_,rfl⟩
 have hdk3:L3.dk=L1.dk:=by rw [←hL3];rfl
 have hsg3:L3.man.segs=L1.man.segs:=by rw [←hL3];rfl
 rw [hL3] at h3 y1 y3 y4 hr3 hrr
 have H3:=hid h3
 have HM:=hid (fun hz=>h3.dop (f:=75) (args:=#[.pointer (some ⟨d,0,none⟩),.int .i64 x]) (v:=.returned (.int .i64 (makeP L3.dk x).2)) (m':=(makeP L3.dk x).1) fun out' ho hd=>Zk3 _ x hz hd (by rw [hdk3];exact HK.out.2.1.ok) (by have:=HK.out;omega))
 have ok3:LOk T S L3.dk:=by rw [hdk3];exact HK.out.2.1
 have HK3:=hid (And.intro hr3 (And.intro ok3 (And.intro (show L3.man.segs.length=n by rw [hsg3];exact HNL.out) (And.intro hx0 (show n < 1000 by omega)))))
 have HRR3:=hid hrr
 have hbig':¬ (99999999≤x):=by omega
 have hmany':¬ (1000≤(n:Int)):=by omega
 have ST3:=hid (ST2.out.trans st3)
 clear h3 hr3 hdk3 hsg3 ok3 hrr HRR HNX hL3 hx0 st3
 go_wp2_with (fail)
 obtain ⟨w3,hw3⟩:∃ w3,w2.setCell { block:=l,off:=3 } (.int .i64 (x+1))=w3:=⟨_,rfl⟩
 rw [hw3] at H3 HM ST3 ⊢
 clear hw3 y0 y1 y2 y3 y4 z0 z1 z2 z3 z4 f3
 refine (HM.out (by have:=HK3.out.2.2.2.1;omega)).mono ?_
 obtain ⟨⟨m4,e4⟩,hm4⟩:∃ q,makeP L3.dk x=q:=⟨_,rfl⟩
 have hrr:=HRR3.out
 have hok4:=HK3.out.2.1.make x (by have:=HK.out;omega)
 unfold rollA at hrr
 rw [hm4] at hrr hok4
 dsimp only at hrr hok4
 have HM4:=hid hm4
 rw [hm4]
 clear hm4
 rintro e w4 ⟨rfl,h4,st4⟩
 dsimp only at h4
 dsimp only
 have H4:=hid h4
 have ST4:=hid (ST3.out.trans st4)
 clear h4 st4 HM
 by_cases he4:e4=0
 rotate_left 1
 ·have heb:(e4 != 0)=true:=by rw [bne_iff_ne];exact he4
  rw [if_neg he4] at hrr
  subst hrr
  clear he4
  go_wp2_with (fail)
  go_ret
  exact ⟨rfl,H4.out.in,ST4.out⟩
 subst he4
 rw [if_pos rfl] at hrr
 obtain ⟨L4,hL4⟩:∃ L4,L3.on m4=L4:=⟨_,rfl⟩
 rw [hL4] at H4 hrr
 have hr4:LgR L4:=by rw [←hL4];exact HK3.out.1.on _
 have hn4:L4.man.segs.length=n:=by rw [←hL4];exact HK3.out.2.2.1
 have hok4':LOk (T+2) S L4.dk:=by rw [←hL4];exact hok4
 have HR4:=hid (And.intro hr4 (And.intro hn4 hok4'))
 have HRR4:=hid hrr
 have HSG:=hid (Zen H4.out hr4)
 clear hok4 hok4' hr4 hn4 hL4 hrr
 go_wp2_with (fail)
 refine HSG.out.mono ?_
 rintro e w5 ⟨A5,c5,rfl,ho5,hg5⟩
 have hm6:=Whole.made w5 3 #[.int .i64 x]
 have hg6:=Zb w5 (.cells #[.int .i64 x] 3)
 have HR6:=hid (Whole.row hm6 ([x].map intV) 1 rfl rfl)
 have HO6:=hid (show (w5.alloc (.cells #[.int .i64 x] 3)).ownsRow w4.heap.size 3 1 (.slice A5 n c5) n (L4.man.segs.map intV) from Zd ho5 hg6)
 have HG6:=hid (Grows.trans hg5 hg6)
 have HZ5:=hid hg5.size
 clear ho5 hg5 hm6 hg6 HSG
 go_wp2_with (at_builtin
              refine Zde rfl (.tmp 42) (.tmp 44) rfl (base:=w4.heap.size) rfl HO6.out (A:=some ⟨w5.heap.size,0,none⟩) (m:=1) (c:=1) rfl HR6.out (fun h=>by cases h) (n+1) rfl (by omega) (by have:=HG6.out.size;omega) ?_
              intro A7 c7 w7 ho7 _ hb7
              have HO7:=hid ho7
              have HG7:=hid (Below.trans (show Below w4.heap.size w4 _ from HG6.out) hb7)
              clear ho7 hb7)
 have hsv:=Ziw (L4.man.segs++[x]) A7 (n+1) c7 H4.out HG7.out HO7.out (fun y hy=>by
  rcases List.mem_append.1 hy with hy | hy
  ·have:=HR4.out.1.seg hy
   exact ⟨by omega,by omega⟩
  ·have:=List.mem_singleton.1 hy
   have:=HK3.out.2.2.2.1
   exact ⟨by omega,by omega⟩) (by have:=HR4.out.1.next;exact ⟨by omega,by omega⟩) HR4.out.2.2.ok (by have:=HK.out;omega)
 have hok8:=LOk.lsave HR4.out.2.2 (L4.man.segs++[x])
 obtain ⟨k1,k2,k3,k4⟩:=Zaa L4 (L4.man.segs++[x])
 have hrr:=HRR4.out
 unfold rollB at hrr
 obtain ⟨⟨L8,e8⟩,hq8⟩:∃ q,Z6 L4 (L4.man.segs++[x])=q:=⟨_,rfl⟩
 rw [hq8] at hsv hok8 k1 hrr
 dsimp only at hok8 k1 hrr
 refine hsv.mono ?_
 clear hsv hq8 k2 k3 k4
 rintro e w8 ⟨rfl,st8,h8⟩
 dsimp only at h8
 have ST8:=hid ((ST4.out.trans (Stays.grows HG7.out)).trans st8)
 have HOK8:=hid hok8
 have HL8:=hid k1
 clear hok8 k1 st8
 dsimp only
 rcases h8 with ⟨rfl,h8,_⟩ | ⟨he8,h8⟩
 rotate_left 1
 ·have heb:(e8 != 0)=true:=by rw [bne_iff_ne];exact he8
  rw [if_neg he8] at hrr
  subst hrr
  have H8:=hid h8
  clear he8 h8
  go_wp2_with (fail)
  go_ret
  exact ⟨rfl,H8.out.in,ST8.out⟩
 rw [if_pos rfl] at hrr
 have H8:=hid h8
 obtain ⟨y0,y1,y2,y3,y4⟩:=h8.fields (Grows.refl _)
 have f4:=h8.2.1.free 4
 have hlast:=HR4.out.1.last
 have hlin:=HR4.out.1.lastIn
 rw [←HL8.out] at hlast hlin
 clear h8
 unfold rollC at hrr
 by_cases hla:L8.last=-1
 ·rw [if_pos hla] at hrr
  rw [hla] at y4
  have hnum:=H8.out.num (j:=4) (L':={ L8 with last:=x }) (v:=.int .i64 x) rfl rfl rfl
  have HNUM:=hid hnum
  subst hrr
  clear hnum hla hlast hlin
  go_wp2_with (fail)
  go_ret
  exact ⟨rfl,(HNUM.out.1.less fun k hk=>.inl hk).in,ST8.out.trans (Zt HNUM.out.2 fun k hk=>.inl hk)⟩
 ·rw [if_neg hla] at hrr
  have hw:=Zmz L8.last (by omega) w8 H8.out HOK8.out (by have:=HK.out;omega) (by have:=HK.out;omega)
  have HW:=hid hw
  have hlab:(L8.last != -1)=true:=by rw [bne_iff_ne];exact hla
  obtain ⟨la,hlae⟩:∃ la,L8.last=la:=⟨_,rfl⟩
  rw [hlae] at y4 HW hlab hrr
  clear hw hla hlast hlin
  go_wp2_with (fail)
  refine HW.out.mono ?_
  rintro e w9 ⟨rfl,h9,st9⟩
  have H9:=hid h9
  obtain ⟨y0,y1,y2,y3,y4⟩:=h9.fields (Grows.refl _)
  have f4:=h9.2.1.free 4
  have HNUM:=hid (h9.num (j:=4) (L':={ L8.on (Zeo L8.dk la) with last:=x }) (v:=.int .i64 x) rfl rfl rfl)
  have ST9:=hid (ST8.out.trans (Zt st9 fun k hk=>.inl hk))
  clear h9 st9
  subst hrr
  go_wp2_with (fail)
  go_ret
  exact ⟨rfl,(HNUM.out.1.less fun k hk=>.inl hk).in,ST9.out.trans (Zt HNUM.out.2 fun k hk=>.inl hk)⟩
end
end Go.Proofs.YtkelafkbmnjpeaaGreat
