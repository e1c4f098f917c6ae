import Derived.Test.YtkelafkbmnjpeaaGreatMG26
import Derived.LoopTactic
set_option linter.unusedSimpArgs false
set_option linter.unusedVariables false
set_option maxHeartbeats 8000000
set_option maxRecDepth 100000
namespace Go.Proofs.YtkelafkbmnjpeaaGreat
open Go.Lib (hid)
open Go.RowKit Go.Maps Go.WideMaps

theorem Sl.spareE {own:Nat→Prop} {w w':World} {A:Option Addr} {n c:Nat} {bs:List UInt8} (h:Sl w A n c bs) (hs:Zc own w w') (ho:∀ ad,A=some ad→bs≠[]→¬ own ad.block):Sl w' A n c bs:=by
 by_cases hb:bs=[]
 ·subst hb
  have hl:=h.len
  exact ⟨⟨by simpa using hl,fun k v hv=>by simp at hv⟩,h.cap,h.bare⟩
 ·exact h.spare hs fun ad e=>ho ad e hb
structure CloAt (out:Nat→Prop) (w:World) (d:Nat) (s:ByteArray) (bs:List UInt8) (g bd bt bb o1 f1 o2 f2:Nat) (A:Option Addr) (n c:Nat):Prop where
 row:Whole w g 235 #[.func (.func 197) #[] #[.pointer (some ⟨bd,0,none⟩),.pointer (some ⟨bt,0,none⟩)],.func (.func 263) #[] #[.pointer (some ⟨o1,0,none⟩),.pointer (some ⟨f1,0,none⟩)],.func (.func 200) #[] #[.pointer (some ⟨bd,0,none⟩),.pointer (some ⟨bt,0,none⟩),.pointer (some ⟨bb,0,none⟩)],.func (.func 263) #[] #[.pointer (some ⟨o2,0,none⟩),.pointer (some ⟨f2,0,none⟩)],.func (.func 201) #[] #[.pointer (some ⟨bd,0,none⟩),.pointer (some ⟨bt,0,none⟩)],.func (.func 203) #[.pointer (some ⟨d,0,none⟩)] #[]]
 xd:Whole w bd 24 #[.pointer (some ⟨d,0,none⟩)]
 xt:Whole w bt 9 #[.string s]
 xb:Whole w bb 37 #[.slice A n c]
 x1:Whole w o1 126 #[.func (.func 129) #[.pointer (some ⟨d,0,none⟩)] #[]]
 y1:Whole w f1 9 #[.string s]
 x2:Whole w o2 126 #[.func (.func 72) #[.pointer (some ⟨d,0,none⟩)] #[]]
 y2:Whole w f2 9 #[.string s]
 sl:Sl w A n c bs
 off:∀ ad,A=some ad→bs≠[]→out ad.block
 small:bs.length≤4015
 outs:out g∧out bd∧out bt∧out bb∧out o1∧out f1∧out o2∧out f2
theorem CloAt.stays {B:Nat} {out:Nat→Prop} {w w':World} {d:Nat} {s:ByteArray} {bs:List UInt8} {g bd bt bb o1 f1 o2 f2:Nat} {A:Option Addr} {n c:Nat} (h:CloAt out w d s bs g bd bt bb o1 f1 o2 f2 A n c) (hs:Stays B out w w'):CloAt out w' d s bs g bd bt bb o1 f1 o2 f2 A n c:=by
 obtain ⟨q0,q1,q2,q3,q4,q5,q6,q7⟩:=h.outs
 have st:∀ {t:TypeId} {cs:Array Value} {k:Nat},Whole w k t cs→out k→Whole w' k t cs:=fun hw ho=>hw.same (hs.same _ hw.lt fun e=>e.2 ho)
 exact ⟨st h.row q0,st h.xd q1,st h.xt q2,st h.xb q3,st h.x1 q4,st h.y1 q5,st h.x2 q6,st h.y2 q7,h.sl.spareE hs (fun ad e hne ho=>ho.2 (h.off ad e hne)),h.off,h.small,h.outs⟩
section
variable {B d K:Nat} {w0 w:World} {out:Nat→Prop} {m:Dk}
theorem Zn1 (w:World) (h:DkIn B w0 w d out m) (ok:DkOk K m) (hK:K≤90000000) {s:ByteArray} (hs:(⟨nmT.toArray⟩:ByteArray)=s) {bs:List UInt8} {g bd bt bb o1 f1 o2 f2:Nat} {A:Option Addr} {n c:Nat} (hc:CloAt out w d s bs g bd bt bb o1 f1 o2 f2 A n c) :
 Calls Tryz.prog 196 #[.slice (some ⟨g,0,none⟩) 6 6] w (Zdg B w0 d out w (seqP (Yj bs) m)):=by
 obtain ⟨r,hr⟩:∃ r,seqP (Yj bs) m=r:=⟨_,rfl⟩
 rw [hr]
 have H:=hid h
 have HO:=hid ok
 have HC:=hid hc
 have HRR:=hid hr
 clear h ok hc hr
 go_enter Tryz.func196,Tryz.ntmps196
 go_wp2_with (fail)
 go_loopw [8] (fun i wr=>∃ (j:Nat) (mj:Dk),j≤6∧i=.int .i64 (j:Nat)∧Hid (DkIn B w0 wr d out mj)∧Hid (DkOk (K+j*4100) mj)∧Hid (CloAt out wr d s bs g bd bt bb o1 f1 o2 f2 A n c)∧Hid (seqP ((Yj bs).drop j) mj=r)∧Hid (Stays B out w wr)) (fun i _=>6 - (intOf i).toNat)
 case atStart=>exact ⟨0,m,by omega,rfl,H,hid (HO.out.mono (by omega)),HC,HRR,hid (Stays.grows (Grows.refl _))⟩
 case round =>
  obtain ⟨j,mj,hj,rfl,HD,HOK,HCL,HQ,HS⟩:=hrel
  have HKJ:=hid (show K+j*4100≤95000000 by omega)
  obtain rfl | rfl | rfl | rfl | rfl | rfl | rfl:j=0∨j=1∨j=2∨j=3∨j=4∨j=5∨j=6:=by omega
  ·have hst:=Zqp wr HD.out HOK.out (by have:=HKJ.out;omega) hs (HCL.out.xd.cell 0) (HCL.out.xt.cell 0)
   have hok:=HOK.out.left
   have hq:=HQ.out
   rw [show (Yj bs).drop 0=(fun m=>leftP m) :: (Yj bs).drop 1 from rfl,seqP] at hq
   obtain ⟨⟨m',er⟩,he⟩:∃ q,leftP mj=q:=⟨_,rfl⟩
   rw [he] at hst hok hq
   have hcell:=HCL.out.row.cell 0
   simp only [Gt] at hcell
   have HST:=hid hst
   have HOK2:=hid (hok.mono (show _≤K+1*4100 by have:=HCL.out.small;omega))
   have HQ2:=hid hq
   clear hst hok hq he
   by_cases her:er=0
   ·subst her
    go_wp2_with (fail)
    refine HST.out.mono ?_
    rintro e w5 ⟨rfl,hd,hs5⟩
    have HD5:=hid hd
    have HCL5:=hid (HCL.out.stays hs5)
    have HS5:=hid (HS.out.trans hs5)
    have HQ5:=hid (show seqP ((Yj bs).drop 1) m'=r from by have:=HQ2.out;first | (rw [if_pos trivial] at this;exact this) | (rw [if_pos rfl] at this;exact this))
    clear hd hs5 hcell
    go_wp2_with (fail)
    go_roundw
    case rel=>exact ⟨1,m',by omega,by first | rfl | go_num,HD5,HOK2,HCL5,HQ5,HS5⟩
    case measure=>simp [intOf]
   ·have herb:(er != 0)=true:=by rw [bne_iff_ne];exact her
    obtain rfl:r=(m',er):=by have:=HQ2.out;rw [if_neg her] at this;exact this.symm
    clear her
    go_wp2_with (fail)
    refine HST.out.mono ?_
    rintro e w5 ⟨rfl,hd,hs5⟩
    have HD5:=hid hd
    have HS5:=hid (HS.out.trans hs5)
    clear hd hs5 hcell
    go_wp2_with (fail)
    go_ret
    exact ⟨rfl,HD5.out,HS5.out⟩
  ·have hst:=Zqq wr HD.out HOK.out (by have:=HKJ.out;omega) hs (HCL.out.x1.cell 0) (HCL.out.y1.cell 0)
   have hok:=HOK.out.create nmT
   have hq:=HQ.out
   rw [show (Yj bs).drop 1=(fun m=>m.create nmT) :: (Yj bs).drop 2 from rfl,seqP] at hq
   obtain ⟨⟨m',er⟩,he⟩:∃ q,mj.create nmT=q:=⟨_,rfl⟩
   rw [he] at hst hok hq
   have hcell:=HCL.out.row.cell 1
   simp only [Gt] at hcell
   have HST:=hid hst
   have HOK2:=hid (hok.mono (show _≤K+2*4100 by have:=HCL.out.small;omega))
   have HQ2:=hid hq
   clear hst hok hq he
   by_cases her:er=0
   ·subst her
    go_wp2_with (fail)
    refine HST.out.mono ?_
    rintro e w5 ⟨rfl,hd,hs5⟩
    have HD5:=hid hd
    have HCL5:=hid (HCL.out.stays hs5)
    have HS5:=hid (HS.out.trans hs5)
    have HQ5:=hid (show seqP ((Yj bs).drop 2) m'=r from by have:=HQ2.out;first | (rw [if_pos trivial] at this;exact this) | (rw [if_pos rfl] at this;exact this))
    clear hd hs5 hcell
    go_wp2_with (fail)
    go_roundw
    case rel=>exact ⟨2,m',by omega,by first | rfl | go_num,HD5,HOK2,HCL5,HQ5,HS5⟩
    case measure=>simp [intOf]
   ·have herb:(er != 0)=true:=by rw [bne_iff_ne];exact her
    obtain rfl:r=(m',er):=by have:=HQ2.out;rw [if_neg her] at this;exact this.symm
    clear her
    go_wp2_with (fail)
    refine HST.out.mono ?_
    rintro e w5 ⟨rfl,hd,hs5⟩
    have HD5:=hid hd
    have HS5:=hid (HS.out.trans hs5)
    clear hd hs5 hcell
    go_wp2_with (fail)
    go_ret
    exact ⟨rfl,HD5.out,HS5.out⟩
  ·have hst:=Zqs wr HD.out HOK.out (by have:=HKJ.out;omega) hs (HCL.out.xd.cell 0) (HCL.out.xt.cell 0) (HCL.out.xb.cell 0) HCL.out.sl (fun ad e hne=>.inr (HCL.out.off ad e hne)) (by have:=HCL.out.small;have:=HCL.out.sl.len;omega)
   have hok:=HOK.out.append nmT bs
   have hq:=HQ.out
   rw [show (Yj bs).drop 2=(fun m=>m.append nmT bs) :: (Yj bs).drop 3 from rfl,seqP] at hq
   obtain ⟨⟨m',er⟩,he⟩:∃ q,mj.append nmT bs=q:=⟨_,rfl⟩
   rw [he] at hst hok hq
   have hcell:=HCL.out.row.cell 2
   simp only [Gt] at hcell
   have HST:=hid hst
   have HOK2:=hid (hok.mono (show _≤K+3*4100 by have:=HCL.out.small;omega))
   have HQ2:=hid hq
   clear hst hok hq he
   by_cases her:er=0
   ·subst her
    go_wp2_with (fail)
    refine HST.out.mono ?_
    rintro e w5 ⟨rfl,hd,hs5⟩
    have HD5:=hid hd
    have HCL5:=hid (HCL.out.stays hs5)
    have HS5:=hid (HS.out.trans hs5)
    have HQ5:=hid (show seqP ((Yj bs).drop 3) m'=r from by have:=HQ2.out;first | (rw [if_pos trivial] at this;exact this) | (rw [if_pos rfl] at this;exact this))
    clear hd hs5 hcell
    go_wp2_with (fail)
    go_roundw
    case rel=>exact ⟨3,m',by omega,by first | rfl | go_num,HD5,HOK2,HCL5,HQ5,HS5⟩
    case measure=>simp [intOf]
   ·have herb:(er != 0)=true:=by rw [bne_iff_ne];exact her
    obtain rfl:r=(m',er):=by have:=HQ2.out;rw [if_neg her] at this;exact this.symm
    clear her
    go_wp2_with (fail)
    refine HST.out.mono ?_
    rintro e w5 ⟨rfl,hd,hs5⟩
    have HD5:=hid hd
    have HS5:=hid (HS.out.trans hs5)
    clear hd hs5 hcell
    go_wp2_with (fail)
    go_ret
    exact ⟨rfl,HD5.out,HS5.out⟩
  ·have hst:=Zqr wr HD.out HOK.out (by have:=HKJ.out;omega) hs (HCL.out.x2.cell 0) (HCL.out.y2.cell 0)
   have hok:=HOK.out.sync nmT
   have hq:=HQ.out
   rw [show (Yj bs).drop 3=(fun m=>m.sync nmT) :: (Yj bs).drop 4 from rfl,seqP] at hq
   obtain ⟨⟨m',er⟩,he⟩:∃ q,mj.sync nmT=q:=⟨_,rfl⟩
   rw [he] at hst hok hq
   have hcell:=HCL.out.row.cell 3
   simp only [Gt] at hcell
   have HST:=hid hst
   have HOK2:=hid (hok.mono (show _≤K+4*4100 by have:=HCL.out.small;omega))
   have HQ2:=hid hq
   clear hst hok hq he
   by_cases her:er=0
   ·subst her
    go_wp2_with (fail)
    refine HST.out.mono ?_
    rintro e w5 ⟨rfl,hd,hs5⟩
    have HD5:=hid hd
    have HCL5:=hid (HCL.out.stays hs5)
    have HS5:=hid (HS.out.trans hs5)
    have HQ5:=hid (show seqP ((Yj bs).drop 4) m'=r from by have:=HQ2.out;first | (rw [if_pos trivial] at this;exact this) | (rw [if_pos rfl] at this;exact this))
    clear hd hs5 hcell
    go_wp2_with (fail)
    go_roundw
    case rel=>exact ⟨4,m',by omega,by first | rfl | go_num,HD5,HOK2,HCL5,HQ5,HS5⟩
    case measure=>simp [intOf]
   ·have herb:(er != 0)=true:=by rw [bne_iff_ne];exact her
    obtain rfl:r=(m',er):=by have:=HQ2.out;rw [if_neg her] at this;exact this.symm
    clear her
    go_wp2_with (fail)
    refine HST.out.mono ?_
    rintro e w5 ⟨rfl,hd,hs5⟩
    have HD5:=hid hd
    have HS5:=hid (HS.out.trans hs5)
    clear hd hs5 hcell
    go_wp2_with (fail)
    go_ret
    exact ⟨rfl,HD5.out,HS5.out⟩
  ·have hst:=Zqt wr HD.out HOK.out (by have:=HKJ.out;omega) hs (HCL.out.xd.cell 0) (HCL.out.xt.cell 0) HCL.out.xd.lt HCL.out.xt.lt
   have hok:=HOK.out.rename nmT nmM
   have hq:=HQ.out
   rw [show (Yj bs).drop 4=(fun m=>m.rename nmT nmM) :: (Yj bs).drop 5 from rfl,seqP] at hq
   obtain ⟨⟨m',er⟩,he⟩:∃ q,mj.rename nmT nmM=q:=⟨_,rfl⟩
   rw [he] at hst hok hq
   have hcell:=HCL.out.row.cell 4
   simp only [Gt] at hcell
   have HST:=hid hst
   have HOK2:=hid (hok.mono (show _≤K+5*4100 by have:=HCL.out.small;omega))
   have HQ2:=hid hq
   clear hst hok hq he
   by_cases her:er=0
   ·subst her
    go_wp2_with (fail)
    refine HST.out.mono ?_
    rintro e w5 ⟨rfl,hd,hs5⟩
    have HD5:=hid hd
    have HCL5:=hid (HCL.out.stays hs5)
    have HS5:=hid (HS.out.trans hs5)
    have HQ5:=hid (show seqP ((Yj bs).drop 5) m'=r from by have:=HQ2.out;first | (rw [if_pos trivial] at this;exact this) | (rw [if_pos rfl] at this;exact this))
    clear hd hs5 hcell
    go_wp2_with (fail)
    go_roundw
    case rel=>exact ⟨5,m',by omega,by first | rfl | go_num,HD5,HOK2,HCL5,HQ5,HS5⟩
    case measure=>simp [intOf]
   ·have herb:(er != 0)=true:=by rw [bne_iff_ne];exact her
    obtain rfl:r=(m',er):=by have:=HQ2.out;rw [if_neg her] at this;exact this.symm
    clear her
    go_wp2_with (fail)
    refine HST.out.mono ?_
    rintro e w5 ⟨rfl,hd,hs5⟩
    have HD5:=hid hd
    have HS5:=hid (HS.out.trans hs5)
    clear hd hs5 hcell
    go_wp2_with (fail)
    go_ret
    exact ⟨rfl,HD5.out,HS5.out⟩
  ·have hst:=Zqu wr HD.out HOK.out (by have:=HKJ.out;omega)
   have hok:=HOK.out.syncDir
   have hq:=HQ.out
   rw [show (Yj bs).drop 5=(fun m=>m.syncDir) :: (Yj bs).drop 6 from rfl,seqP] at hq
   obtain ⟨⟨m',er⟩,he⟩:∃ q,mj.syncDir=q:=⟨_,rfl⟩
   rw [he] at hst hok hq
   have hcell:=HCL.out.row.cell 5
   simp only [Gt] at hcell
   have HST:=hid hst
   have HOK2:=hid (hok.mono (show _≤K+6*4100 by have:=HCL.out.small;omega))
   have HQ2:=hid hq
   clear hst hok hq he
   by_cases her:er=0
   ·subst her
    go_wp2_with (fail)
    refine HST.out.mono ?_
    rintro e w5 ⟨rfl,hd,hs5⟩
    have HD5:=hid hd
    have HCL5:=hid (HCL.out.stays hs5)
    have HS5:=hid (HS.out.trans hs5)
    have HQ5:=hid (show seqP ((Yj bs).drop 6) m'=r from by have:=HQ2.out;first | (rw [if_pos trivial] at this;exact this) | (rw [if_pos rfl] at this;exact this))
    clear hd hs5 hcell
    go_wp2_with (fail)
    go_roundw
    case rel=>exact ⟨6,m',by omega,by first | rfl | go_num,HD5,HOK2,HCL5,HQ5,HS5⟩
    case measure=>simp [intOf]
   ·have herb:(er != 0)=true:=by rw [bne_iff_ne];exact her
    obtain rfl:r=(m',er):=by have:=HQ2.out;rw [if_neg her] at this;exact this.symm
    clear her
    go_wp2_with (fail)
    refine HST.out.mono ?_
    rintro e w5 ⟨rfl,hd,hs5⟩
    have HD5:=hid hd
    have HS5:=hid (HS.out.trans hs5)
    clear hd hs5 hcell
    go_wp2_with (fail)
    go_ret
    exact ⟨rfl,HD5.out,HS5.out⟩
  ·obtain rfl:r=(mj,0):=by have:=HQ.out;exact this.symm
   go_wp2_with (fail)
   go_ret
   exact ⟨rfl,HD.out,HS.out⟩
end
end Go.Proofs.YtkelafkbmnjpeaaGreat
