/-
  Texts that the statements lean on, one behind the other.
-/
import Derived.Test.YtkelafkbmnjpeaaGreatMG27
import Derived.LoopTactic
import Derived.Test.YtkelafkbmnjpeaaGreatMG26
import Derived.Test.YtkelafkbmnjpeaaGreatMG25
import Derived.Test.YtkelafkbmnjpeaaGreatMG19
set_option maxHeartbeats 8000000
set_option maxRecDepth 100000
namespace Go.Proofs.YtkelafkbmnjpeaaGreat
open Go.Lib (hid)
open Go.RowKit Go.Maps Go.WideMaps
theorem Sl.spareE {own:Nat→Prop} {w w':World} {A:Option Addr} {n c:Nat} {bs:List UInt8} (h:Sl w A n c bs) (hs:Zc own w w') (ho:∀ ad,A=some ad→bs≠[]→¬ own ad.block):Sl w' A n c bs:=by
 by_cases hb:bs=[]
 ·subst hb
  have hl:=h.len
  exact ⟨⟨by simpa using hl,fun k v hv=>by simp at hv⟩,h.cap,h.bare⟩
 ·exact h.spare hs fun ad e=>ho ad e hb
structure CloAt (out:Nat→Prop) (w:World) (d:Nat) (s:ByteArray) (bs:List UInt8) (g bd bt bb o1 f1 o2 f2:Nat) (A:Option Addr) (n c:Nat):Prop where
 row:Whole w g 235 #[.func (.func 197) #[] #[.pointer (some ⟨bd,0,none⟩),.pointer (some ⟨bt,0,none⟩)],.func (.func 263) #[] #[.pointer (some ⟨o1,0,none⟩),.pointer (some ⟨f1,0,none⟩)],.func (.func 200) #[] #[.pointer (some ⟨bd,0,none⟩),.pointer (some ⟨bt,0,none⟩),.pointer (some ⟨bb,0,none⟩)],.func (.func 263) #[] #[.pointer (some ⟨o2,0,none⟩),.pointer (some ⟨f2,0,none⟩)],.func (.func 201) #[] #[.pointer (some ⟨bd,0,none⟩),.pointer (some ⟨bt,0,none⟩)],.func (.func 203) #[.pointer (some ⟨d,0,none⟩)] #[]]
 xd:Whole w bd 24 #[.pointer (some ⟨d,0,none⟩)]
 xt:Whole w bt 9 #[.string s]
 xb:Whole w bb 37 #[.slice A n c]
 x1:Whole w o1 126 #[.func (.func 129) #[.pointer (some ⟨d,0,none⟩)] #[]]
 y1:Whole w f1 9 #[.string s]
 x2:Whole w o2 126 #[.func (.func 72) #[.pointer (some ⟨d,0,none⟩)] #[]]
 y2:Whole w f2 9 #[.string s]
 sl:Sl w A n c bs
 off:∀ ad,A=some ad→bs≠[]→out ad.block
 small:bs.length≤4015
 outs:out g∧out bd∧out bt∧out bb∧out o1∧out f1∧out o2∧out f2
theorem CloAt.stays {B:Nat} {out:Nat→Prop} {w w':World} {d:Nat} {s:ByteArray} {bs:List UInt8} {g bd bt bb o1 f1 o2 f2:Nat} {A:Option Addr} {n c:Nat} (h:CloAt out w d s bs g bd bt bb o1 f1 o2 f2 A n c) (hs:Stays B out w w'):CloAt out w' d s bs g bd bt bb o1 f1 o2 f2 A n c:=by
 obtain ⟨q0,q1,q2,q3,q4,q5,q6,q7⟩:=h.outs
 have st:∀ {t:TypeId} {cs:Array Value} {k:Nat},Whole w k t cs→out k→Whole w' k t cs:=fun hw ho=>hw.same (hs.same _ hw.lt fun e=>e.2 ho)
 exact ⟨st h.row q0,st h.xd q1,st h.xt q2,st h.xb q3,st h.x1 q4,st h.y1 q5,st h.x2 q6,st h.y2 q7,h.sl.spareE hs (fun ad e hne ho=>ho.2 (h.off ad e hne)),h.off,h.small,h.outs⟩
section
variable {B d K:Nat} {w0 w:World} {out:Nat→Prop} {m:Dk}
theorem Zph (w:World) (h:DkIn B w0 w d out m) (ok:DkOk K m) (hK:K≤90000000) {s:ByteArray} (hs:(⟨nmT.toArray⟩:ByteArray)=s) {bs:List UInt8} {g bd bt bb o1 f1 o2 f2:Nat} {A:Option Addr} {n c:Nat} (hc:CloAt out w d s bs g bd bt bb o1 f1 o2 f2 A n c) :
 Calls Tryz.prog 196 #[.slice (some ⟨g,0,none⟩) 6 6] w (Zed B w0 d out w (seqP (Yo bs) m)):=by
 obtain ⟨r,hr⟩:∃ r,seqP (Yo bs) m=r:=⟨_,rfl⟩
 rw [hr]
 have H:=hid h
 have HO:=hid ok
 have HC:=hid hc
 have HRR:=hid hr
 clear h ok hc hr
 go_enter Tryz.func196,Tryz.ntmps196
 go_wp2_with (fail)
 go_loopw [8] (fun i wr=>∃ (j:Nat) (mj:Dk),j≤6∧i=.int .i64 (j:Nat)∧Hid (DkIn B w0 wr d out mj)∧Hid (DkOk (K+j*4100) mj)∧Hid (CloAt out wr d s bs g bd bt bb o1 f1 o2 f2 A n c)∧Hid (seqP ((Yo bs).drop j) mj=r)∧Hid (Stays B out w wr)) (fun i _=>6 - (intOf i).toNat)
 case atStart=>exact ⟨0,m,by omega,rfl,H,hid (HO.out.mono (by omega)),HC,HRR,hid (Stays.grows (Grows.refl _))⟩
 case round =>
  obtain ⟨j,mj,hj,rfl,HD,HOK,HCL,HQ,HS⟩:=hrel
  have HKJ:=hid (show K+j*4100≤95000000 by omega)
  obtain rfl | rfl | rfl | rfl | rfl | rfl | rfl:j=0∨j=1∨j=2∨j=3∨j=4∨j=5∨j=6:=by omega
  ·have hst:=Zsb wr HD.out HOK.out (by have:=HKJ.out;omega) hs (HCL.out.xd.cell 0) (HCL.out.xt.cell 0)
   have hok:=HOK.out.left
   have hq:=HQ.out
   rw [show (Yo bs).drop 0=(fun m=>leftP m) :: (Yo bs).drop 1 from rfl,seqP] at hq
   obtain ⟨⟨m',er⟩,he⟩:∃ q,leftP mj=q:=⟨_,rfl⟩
   rw [he] at hst hok hq
   have hcell:=HCL.out.row.cell 0
   simp only [Gt] at hcell
   have HST:=hid hst
   have HOK2:=hid (hok.mono (show _≤K+1*4100 by have:=HCL.out.small;omega))
   have HQ2:=hid hq
   clear hst hok hq he
   by_cases her:er=0
   ·subst her
    go_wp2_with (fail)
    refine HST.out.mono ?_
    rintro e w5 ⟨rfl,hd,hs5⟩
    have HD5:=hid hd
    have HCL5:=hid (HCL.out.stays hs5)
    have HS5:=hid (HS.out.trans hs5)
    have HQ5:=hid (show seqP ((Yo bs).drop 1) m'=r from by have:=HQ2.out;first | (rw [if_pos trivial] at this;exact this) | (rw [if_pos rfl] at this;exact this))
    clear hd hs5 hcell
    go_wp2_with (fail)
    go_roundw
    case rel=>exact ⟨1,m',by omega,by first | rfl | go_num,HD5,HOK2,HCL5,HQ5,HS5⟩
    case measure=>simp [intOf]
   ·have herb:(er != 0)=true:=by rw [bne_iff_ne];exact her
    obtain rfl:r=(m',er):=by have:=HQ2.out;rw [if_neg her] at this;exact this.symm
    clear her
    go_wp2_with (fail)
    refine HST.out.mono ?_
    rintro e w5 ⟨rfl,hd,hs5⟩
    have HD5:=hid hd
    have HS5:=hid (HS.out.trans hs5)
    clear hd hs5 hcell
    go_wp2_with (fail)
    go_ret
    exact ⟨rfl,HD5.out,HS5.out⟩
  ·have hst:=Zsc wr HD.out HOK.out (by have:=HKJ.out;omega) hs (HCL.out.x1.cell 0) (HCL.out.y1.cell 0)
   have hok:=HOK.out.create nmT
   have hq:=HQ.out
   rw [show (Yo bs).drop 1=(fun m=>m.create nmT) :: (Yo bs).drop 2 from rfl,seqP] at hq
   obtain ⟨⟨m',er⟩,he⟩:∃ q,mj.create nmT=q:=⟨_,rfl⟩
   rw [he] at hst hok hq
   have hcell:=HCL.out.row.cell 1
   simp only [Gt] at hcell
   have HST:=hid hst
   have HOK2:=hid (hok.mono (show _≤K+2*4100 by have:=HCL.out.small;omega))
   have HQ2:=hid hq
   clear hst hok hq he
   by_cases her:er=0
   ·subst her
    go_wp2_with (fail)
    refine HST.out.mono ?_
    rintro e w5 ⟨rfl,hd,hs5⟩
    have HD5:=hid hd
    have HCL5:=hid (HCL.out.stays hs5)
    have HS5:=hid (HS.out.trans hs5)
    have HQ5:=hid (show seqP ((Yo bs).drop 2) m'=r from by have:=HQ2.out;first | (rw [if_pos trivial] at this;exact this) | (rw [if_pos rfl] at this;exact this))
    clear hd hs5 hcell
    go_wp2_with (fail)
    go_roundw
    case rel=>exact ⟨2,m',by omega,by first | rfl | go_num,HD5,HOK2,HCL5,HQ5,HS5⟩
    case measure=>simp [intOf]
   ·have herb:(er != 0)=true:=by rw [bne_iff_ne];exact her
    obtain rfl:r=(m',er):=by have:=HQ2.out;rw [if_neg her] at this;exact this.symm
    clear her
    go_wp2_with (fail)
    refine HST.out.mono ?_
    rintro e w5 ⟨rfl,hd,hs5⟩
    have HD5:=hid hd
    have HS5:=hid (HS.out.trans hs5)
    clear hd hs5 hcell
    go_wp2_with (fail)
    go_ret
    exact ⟨rfl,HD5.out,HS5.out⟩
  ·have hst:=Zse wr HD.out HOK.out (by have:=HKJ.out;omega) hs (HCL.out.xd.cell 0) (HCL.out.xt.cell 0) (HCL.out.xb.cell 0) HCL.out.sl (fun ad e hne=>.inr (HCL.out.off ad e hne)) (by have:=HCL.out.small;have:=HCL.out.sl.len;omega)
   have hok:=HOK.out.append nmT bs
   have hq:=HQ.out
   rw [show (Yo bs).drop 2=(fun m=>m.append nmT bs) :: (Yo bs).drop 3 from rfl,seqP] at hq
   obtain ⟨⟨m',er⟩,he⟩:∃ q,mj.append nmT bs=q:=⟨_,rfl⟩
   rw [he] at hst hok hq
   have hcell:=HCL.out.row.cell 2
   simp only [Gt] at hcell
   have HST:=hid hst
   have HOK2:=hid (hok.mono (show _≤K+3*4100 by have:=HCL.out.small;omega))
   have HQ2:=hid hq
   clear hst hok hq he
   by_cases her:er=0
   ·subst her
    go_wp2_with (fail)
    refine HST.out.mono ?_
    rintro e w5 ⟨rfl,hd,hs5⟩
    have HD5:=hid hd
    have HCL5:=hid (HCL.out.stays hs5)
    have HS5:=hid (HS.out.trans hs5)
    have HQ5:=hid (show seqP ((Yo bs).drop 3) m'=r from by have:=HQ2.out;first | (rw [if_pos trivial] at this;exact this) | (rw [if_pos rfl] at this;exact this))
    clear hd hs5 hcell
    go_wp2_with (fail)
    go_roundw
    case rel=>exact ⟨3,m',by omega,by first | rfl | go_num,HD5,HOK2,HCL5,HQ5,HS5⟩
    case measure=>simp [intOf]
   ·have herb:(er != 0)=true:=by rw [bne_iff_ne];exact her
    obtain rfl:r=(m',er):=by have:=HQ2.out;rw [if_neg her] at this;exact this.symm
    clear her
    go_wp2_with (fail)
    refine HST.out.mono ?_
    rintro e w5 ⟨rfl,hd,hs5⟩
    have HD5:=hid hd
    have HS5:=hid (HS.out.trans hs5)
    clear hd hs5 hcell
    go_wp2_with (fail)
    go_ret
    exact ⟨rfl,HD5.out,HS5.out⟩
  ·have hst:=Zsd wr HD.out HOK.out (by have:=HKJ.out;omega) hs (HCL.out.x2.cell 0) (HCL.out.y2.cell 0)
   have hok:=HOK.out.sync nmT
   have hq:=HQ.out
   rw [show (Yo bs).drop 3=(fun m=>m.sync nmT) :: (Yo bs).drop 4 from rfl,seqP] at hq
   obtain ⟨⟨m',er⟩,he⟩:∃ q,mj.sync nmT=q:=⟨_,rfl⟩
   rw [he] at hst hok hq
   have hcell:=HCL.out.row.cell 3
   simp only [Gt] at hcell
   have HST:=hid hst
   have HOK2:=hid (hok.mono (show _≤K+4*4100 by have:=HCL.out.small;omega))
   have HQ2:=hid hq
   clear hst hok hq he
   by_cases her:er=0
   ·subst her
    go_wp2_with (fail)
    refine HST.out.mono ?_
    rintro e w5 ⟨rfl,hd,hs5⟩
    have HD5:=hid hd
    have HCL5:=hid (HCL.out.stays hs5)
    have HS5:=hid (HS.out.trans hs5)
    have HQ5:=hid (show seqP ((Yo bs).drop 4) m'=r from by have:=HQ2.out;first | (rw [if_pos trivial] at this;exact this) | (rw [if_pos rfl] at this;exact this))
    clear hd hs5 hcell
    go_wp2_with (fail)
    go_roundw
    case rel=>exact ⟨4,m',by omega,by first | rfl | go_num,HD5,HOK2,HCL5,HQ5,HS5⟩
    case measure=>simp [intOf]
   ·have herb:(er != 0)=true:=by rw [bne_iff_ne];exact her
    obtain rfl:r=(m',er):=by have:=HQ2.out;rw [if_neg her] at this;exact this.symm
    clear her
    go_wp2_with (fail)
    refine HST.out.mono ?_
    rintro e w5 ⟨rfl,hd,hs5⟩
    have HD5:=hid hd
    have HS5:=hid (HS.out.trans hs5)
    clear hd hs5 hcell
    go_wp2_with (fail)
    go_ret
    exact ⟨rfl,HD5.out,HS5.out⟩
  ·have hst:=Zsf wr HD.out HOK.out (by have:=HKJ.out;omega) hs (HCL.out.xd.cell 0) (HCL.out.xt.cell 0) HCL.out.xd.lt HCL.out.xt.lt
   have hok:=HOK.out.rename nmT nmM
   have hq:=HQ.out
   rw [show (Yo bs).drop 4=(fun m=>m.rename nmT nmM) :: (Yo bs).drop 5 from rfl,seqP] at hq
   obtain ⟨⟨m',er⟩,he⟩:∃ q,mj.rename nmT nmM=q:=⟨_,rfl⟩
   rw [he] at hst hok hq
   have hcell:=HCL.out.row.cell 4
   simp only [Gt] at hcell
   have HST:=hid hst
   have HOK2:=hid (hok.mono (show _≤K+5*4100 by have:=HCL.out.small;omega))
   have HQ2:=hid hq
   clear hst hok hq he
   by_cases her:er=0
   ·subst her
    go_wp2_with (fail)
    refine HST.out.mono ?_
    rintro e w5 ⟨rfl,hd,hs5⟩
    have HD5:=hid hd
    have HCL5:=hid (HCL.out.stays hs5)
    have HS5:=hid (HS.out.trans hs5)
    have HQ5:=hid (show seqP ((Yo bs).drop 5) m'=r from by have:=HQ2.out;first | (rw [if_pos trivial] at this;exact this) | (rw [if_pos rfl] at this;exact this))
    clear hd hs5 hcell
    go_wp2_with (fail)
    go_roundw
    case rel=>exact ⟨5,m',by omega,by first | rfl | go_num,HD5,HOK2,HCL5,HQ5,HS5⟩
    case measure=>simp [intOf]
   ·have herb:(er != 0)=true:=by rw [bne_iff_ne];exact her
    obtain rfl:r=(m',er):=by have:=HQ2.out;rw [if_neg her] at this;exact this.symm
    clear her
    go_wp2_with (fail)
    refine HST.out.mono ?_
    rintro e w5 ⟨rfl,hd,hs5⟩
    have HD5:=hid hd
    have HS5:=hid (HS.out.trans hs5)
    clear hd hs5 hcell
    go_wp2_with (fail)
    go_ret
    exact ⟨rfl,HD5.out,HS5.out⟩
  ·have hst:=Zsg wr HD.out HOK.out (by have:=HKJ.out;omega)
   have hok:=HOK.out.syncDir
   have hq:=HQ.out
   rw [show (Yo bs).drop 5=(fun m=>m.syncDir) :: (Yo bs).drop 6 from rfl,seqP] at hq
   obtain ⟨⟨m',er⟩,he⟩:∃ q,mj.syncDir=q:=⟨_,rfl⟩
   rw [he] at hst hok hq
   have hcell:=HCL.out.row.cell 5
   simp only [Gt] at hcell
   have HST:=hid hst
   have HOK2:=hid (hok.mono (show _≤K+6*4100 by have:=HCL.out.small;omega))
   have HQ2:=hid hq
   clear hst hok hq he
   by_cases her:er=0
   ·subst her
    go_wp2_with (fail)
    refine HST.out.mono ?_
    rintro e w5 ⟨rfl,hd,hs5⟩
    have HD5:=hid hd
    have HCL5:=hid (HCL.out.stays hs5)
    have HS5:=hid (HS.out.trans hs5)
    have HQ5:=hid (show seqP ((Yo bs).drop 6) m'=r from by have:=HQ2.out;first | (rw [if_pos trivial] at this;exact this) | (rw [if_pos rfl] at this;exact this))
    clear hd hs5 hcell
    go_wp2_with (fail)
    go_roundw
    case rel=>exact ⟨6,m',by omega,by first | rfl | go_num,HD5,HOK2,HCL5,HQ5,HS5⟩
    case measure=>simp [intOf]
   ·have herb:(er != 0)=true:=by rw [bne_iff_ne];exact her
    obtain rfl:r=(m',er):=by have:=HQ2.out;rw [if_neg her] at this;exact this.symm
    clear her
    go_wp2_with (fail)
    refine HST.out.mono ?_
    rintro e w5 ⟨rfl,hd,hs5⟩
    have HD5:=hid hd
    have HS5:=hid (HS.out.trans hs5)
    clear hd hs5 hcell
    go_wp2_with (fail)
    go_ret
    exact ⟨rfl,HD5.out,HS5.out⟩
  ·obtain rfl:r=(mj,0):=by have:=HQ.out;exact this.symm
   go_wp2_with (fail)
   go_ret
   exact ⟨rfl,HD.out,HS.out⟩
end
end Go.Proofs.YtkelafkbmnjpeaaGreat
set_option maxHeartbeats 4000000
set_option maxRecDepth 100000
namespace Go.Proofs.YtkelafkbmnjpeaaGreat
open Go.Lib (hid)
open Go.RowKit
theorem Zsn {xs:List Int} {j:Nat} {x:Int} (hx:xs[j]?=some x):numsB (xs.take (j+1))=numsB (xs.take j)++numB x 4:=by
 obtain ⟨h1,h2⟩:=List.getElem?_eq_some_iff.1 hx
 rw [List.take_succ_eq_append_getElem h1,Zow,h2]
theorem Zso (w:World) (A:Option Addr) (n c:Nat) (m:Mn) (h:MnIn w A n c m) :
 Calls Tryz.prog 195 #[.agg #[.slice A n c,.int .i64 m.next]] w fun e w'=>∃ A' k c',e=.returned (.slice A' k c')∧w'.ownsRow w.heap.size 5 1 (.slice A' k c') k ((putM m).map byteV)∧Grows w w':=by
 have hwm:=Whole.made w 96 #[.slice A n c,.int .i64 m.next]
 have hgr:=Za w (.cells #[.slice A n c,.int .i64 m.next] 96)
 obtain ⟨w1,hw1⟩:∃ x,w.alloc (.cells #[.slice A n c,.int .i64 m.next] 96)=x:=⟨_,rfl⟩
 rw [hw1] at hwm hgr
 have c0:=hwm.cell 0
 have c1:=hwm.cell 1
 simp only [Gt] at c0 c1
 have HWM:=hid hwm
 have HI:=hid (h.grow hgr)
 have HL:=hid (show m.segs.length=n from h.segs.len)
 have HG:=hid hgr
 have HR:=hid (Ze1 w1 A n c m HI.out)
 obtain ⟨b,hbb⟩:∃ b,Z1 m=b:=⟨_,rfl⟩
 obtain ⟨nx,hnx⟩:∃ nx,m.next=nx:=⟨_,rfl⟩
 rw [hbb,hnx] at HR
 rw [hnx] at c1 hw1 HWM
 rw [hnx]
 have HB:=hid (And.intro hbb hnx)
 obtain ⟨pm,hpm⟩:∃ pm,putM m=pm:=⟨_,rfl⟩
 rw [hpm]
 have HP:=hid hpm
 clear hwm h hgr hbb hnx hpm
 go_enter Tryz.func195,Tryz.ntmps195
 go_wp2_with (fail)
 refine HR.out.mono ?_
 rintro e w2 ⟨rfl,hg2⟩
 have HG2:=hid hg2
 have h2:=hg2.whole HWM.out
 have k0:=h2.cell 0
 have k1:=h2.cell 1
 simp only [Gt] at k0 k1
 have HW2:=hid h2
 clear hg2 c0 c1 hw1 h2 HR
 cases b with
 | false =>
   obtain rfl:pm=[]:=HP.out.symm.trans (Znl HB.out.1)
   go_wp2_with (fail)
   go_ret
   exact ⟨none,0,0,rfl,World.ownsRow_nil _ _ _ _,HG.out.trans HG2.out⟩
 | true =>
   have HN:=hid (show n≤1000 by have:=Zcw HB.out.1;have:=HL.out;omega)
   have HPB:=hid (show putB (bodyM m)=pm by rw [←HP.out,Zer HB.out.1];exact Yd (Zeq HB.out.1))
   have hm3:=Whole.made w2 5 #[.int .u8 8]
   have hg3:=Za w2 (.cells #[.int .u8 8] 5)
   have ho3:(w2.alloc (.cells #[.int .u8 8] 5)).ownsRow w2.heap.size 5 1 (.slice (some ⟨w2.heap.size,0,none⟩) 1 1) 1 (([8]:List UInt8).map byteV):=World.ownsRow_lit w2 #[.int .u8 8] 1 (Nat.le_refl _) (by unfold maxLen;omega) rfl
   have hx3:=hg3.whole HW2.out
   have HO3:=hid ho3
   have HG3:=hid hg3
   have HC3:=hid hx3
   have kk0:=hx3.cell 0
   have kk1:=hx3.cell 1
   simp only [Gt] at kk0 kk1
   clear hm3 hg3 ho3 hx3 k0 k1
   go_wp2_with (fail)
   have hpn:=Zjx w2.heap.size (some ⟨w2.heap.size,0,none⟩) 1 1 [8] nx 4 (w2.alloc (.cells #[.int .u8 8] 5)) HO3.out HG3.out.size (by omega) (by omega)
   refine hpn.mono ?_
   clear hpn
   rintro e w4 ⟨A4,c4,rfl,ho4,hb4,hs4⟩
   have HG4:=hid (show Grows w2 w4 from Below.trans HG3.out hb4)
   have h4:=HG4.out.whole HW2.out
   have q0:=h4.cell 0
   have q1:=h4.cell 1
   simp only [Gt] at q0 q1
   have HO4:=hid ho4
   clear ho4 hb4 hs4 h4 kk0 kk1
   go_wp2_with (fail)
   have hpn:=Zjx w2.heap.size A4 5 c4 ([8]++numB nx 4) (n:Int) 2 w4 HO4.out HG4.out.size (by omega) (by omega)
   refine hpn.mono ?_
   clear hpn
   rintro e w5 ⟨A5,c5,rfl,ho5,hb5,hs5⟩
   have HG5:=hid (show Grows w2 w5 from Below.trans HG4.out hb5)
   have h5:=HG5.out.whole HW2.out
   have r0:=h5.cell 0
   have r1:=h5.cell 1
   simp only [Gt] at r0 r1
   have HO5:=hid (show w5.ownsRow w2.heap.size 5 1 (.slice A5 7 c5) 7 ((headM m).map byteV) from by
    unfold headM
    rw [HB.out.2,HL.out]
    exact ho5)
   clear ho5 hb5 hs5 h5 q0 q1
   go_wp2_with (fail)
   go_loopw [3,22] (fun v i wr=>∃ (A:Option Addr) (c j k:Nat),j≤n∧i=.int .i64 (j:Nat)∧v=.slice A k c∧Hid (k=7+4*j)∧Hid (wr.ownsRow w2.heap.size 5 1 (.slice A k c) k ((headM m++numsB (m.segs.take j)).map byteV))∧Hid (Grows w2 wr)) (fun _ i _=>n - (intOf i).toNat)
   case atStart=>exact ⟨A5,c5,0,7,by omega,rfl,rfl,hid rfl,hid (by simpa [numsB] using HO5.out),HG5⟩
   case round =>
    obtain ⟨A6,c6,j,k6,hj,rfl,rfl,HK,HR,HW⟩:=hrel
    clear r0 r1
    by_cases hlt:j < n
    ·have hlt':(j:Int) < (n:Int):=by omega
     have hj0:(0:Int)≤(j:Int):=by omega
     have e5:IntKind.i64.wrap ((j:Int)+1)=(j:Int)+1:=IntWalk.i64_in _ ⟨by omega,by have:=HN.out;omega⟩
     obtain ⟨ad,x,rfl,hc,hx,hbk⟩:=((HI.out.segs.grow HG2.out).grow HW.out).get hlt
     have HX:=hid (Zsn hx)
     clear hx hbk
     go_wp2_with (fail)
     have hpn:=Zjx w2.heap.size A6 k6 c6 (headM m++numsB (m.segs.take j)) x 4 wr HR.out HW.out.size (by have:=HK.out;have:=HN.out;omega) (by omega)
     refine hpn.mono ?_
     clear hpn
     rintro e w7 ⟨A7,c7,rfl,ho7,hb7,hs7⟩
     have HO7:=hid ho7
     have HB7:=hid (show Grows w2 w7 from Below.trans HW.out hb7)
     clear ho7 hb7 hs7
     go_wp2_with (fail)
     go_roundw
     case rel=>exact ⟨A7,c7,j+1,k6+4,by omega,by first | rfl | go_num,rfl,hid (by have:=HK.out;omega),hid (by rw [HX.out,←List.append_assoc];exact HO7.out),HB7⟩
     case measure=>simp [intOf];omega
    ·obtain rfl:j=n:=by omega
     have hlt':¬ ((j:Int) < (j:Int)):=by omega
     have hr:=HR.out
     rw [List.take_of_length_le (by rw [HL.out];exact Nat.le_refl _)] at hr
     have hfp:=Zbu A6 k6 c6 (bodyM m) wr (Sl.owned hr) (by have:=HK.out;have:=HN.out;unfold maxLen;omega)
     rw [HPB.out] at hfp
     have HF:=hid hfp
     clear hr hfp
     go_wp2_with (fail)
     refine HF.out.mono ?_
     rintro e w8 ⟨A8,k8,c8,rfl,ho8,hb8⟩
     have HO8:=hid (Zg ho8 (show w.heap.size≤wr.heap.size from Nat.le_trans (Nat.le_trans HG.out.size HG2.out.size) HW.out.size))
     have HG8:=hid (show Grows w w8 from HG.out.trans (HG2.out.trans (HW.out.trans hb8)))
     clear ho8 hb8
     go_wp2_with (fail)
     go_ret
     exact ⟨A8,k8,c8,rfl,HO8.out,HG8.out⟩
end Go.Proofs.YtkelafkbmnjpeaaGreat
