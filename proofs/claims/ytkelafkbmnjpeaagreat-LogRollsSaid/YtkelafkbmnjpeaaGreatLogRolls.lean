import Derived.Test.YtkelafkbmnjpeaaGreatLgHead
import Derived.Test.YtkelafkbmnjpeaaGreatLgRolls
import Derived.Test.YtkelafkbmnjpeaaGreatMG39
import Derived.ProofKit
import Derived.ChangeOld
set_option maxHeartbeats 16000000
set_option maxRecDepth 100000
namespace Go.Proofs.YtkelafkbmnjpeaaGreat
open Go.Lib (hid)
open Go.ChangeShapes Go.WideShapes Go.ChangeAt Go.RowKit
attribute [local irreducible] wpF
theorem Zln (w:World) (A0:Option Addr) (n0 c0:Nat) (ls:List Rc) (hl:Recs w A0 n0 c0 ls) (u:Int) (hu:0≤u∧u≤255) :
 Calls Tryz.prog 7 #[.slice A0 n0 c0,.int .u8 u] w fun e w'=>e=.returned (.bool true)∧Below w.heap.size w w':=by
 have HL:=hid hl
 clear hl
 obtain ⟨many,hmany⟩:∃ m:Nat,u % 20=m:=⟨(u % 20).toNat,by omega⟩
 have hmb:many≤19:=by omega
 have hm1:u.tmod 20=(many:Int):=by rw [Int.tmod_eq_emod_of_nonneg hu.1];exact hmany
 have hm2:IntKind.u8.wrap (many:Int)=(many:Int):=by show (many:Int) % 256=many;omega
 have hm3:IntKind.i64.wrap (many:Int)=(many:Int):=IntWalk.i64_in _ (by omega)
 clear hmany
 go_enter Tryz.func7,Tryz.ntmps7
 go_wp2_with (fail)
 refine (Zcr w).mono ?_
 rintro e w0 ⟨rfl,hb0⟩
 have HB0:=hid (show Grows w w0 from hb0)
 clear hb0
 go_wp2_with (fail)
 refine (Zf8 w0 4194304).mono ?_
 rintro e w1 ⟨d,rfl,hn⟩
 have HD1:=hid (show DkIn w.heap.size w w1 d (fun _=>False) (Dk.new 4194304) from DkIn.new hn HB0.out.size HB0.out (fun k h=>h.elim))
 clear hn
 by_cases h40:n0≤40
 rotate_left 1
 ·have h40':(n0:Int) > 40:=by omega
  go_wp2_with (fail)
  go_ret
  exact ⟨rfl,HD1.out.low⟩
 have h40':¬ ((n0:Int) > 40):=by omega
 go_wp2_with (fail)
 have hop:=Zaq 1048576 w1 HD1.out (LOk.new (S:=13) 4194304).ok (by omega)
 rw [Zfy (by omega)] at hop
 have HOP:=hid hop
 clear hop
 go_wp2_with (fail)
 refine HOP.out.mono ?_
 rintro e w2 ⟨hg2,(⟨h0,_⟩ | ⟨L,l,h0,_,rfl,hl⟩)⟩
 ·cases h0
 injection h0 with h0
 subst h0
 have HL2:=hid (show LgIn w.heap.size w w2 d l (fun _=>False) (LG0 1048576) from hl)
 clear hg2 hl HOP
 go_wp2_with (fail)
 go_loopw [9,10] (fun vl vi wr=>∃ (i:Nat) (L:Lg) (lv:Int),i≤many∧vl=.int .i64 lv∧vi=.int .i64 (i:Nat)∧Hid (LgIn w.heap.size w wr d l (fun _=>False) L)∧Hid (RO i L lv)) (fun _ i _=>many - (intOf i).toNat)
 case atStart=>exact ⟨0,_,0,Nat.zero_le _,rfl,rfl,HL2,hid RO.new⟩
 case round =>
  obtain ⟨i,L,lv,hi,rfl,rfl,HI,HR⟩:=hrel
  clear HL2 HD1
  by_cases hlt:i < many
  ·have hlt':(i:Int) < (many:Int):=by omega
   have hj0:(0:Int)≤(i:Int):=by omega
   have e5:IntKind.i64.wrap ((i:Int)+1)=(i:Int)+1:=IntWalk.i64_in _ ⟨by omega,by omega⟩
   have HLT:=hid hlt
   have HK:=hid (show i≤50∧many≤19 by omega)
   obtain ⟨AA,an,ac,hat⟩:=HI.out
   obtain ⟨he,hm⟩:=HR.out.roll HK.out.1
   have hro:=Zf1 wr hat HR.out.r HR.out.ok (by have:=HK.out;omega) (by omega)
   obtain ⟨⟨L5,v5⟩,hL5⟩:∃ y,rollP L=y:=⟨_,rfl⟩
   rw [hL5] at hro he hm
   dsimp only at he hm
   subst he
   obtain ⟨n,hn⟩:∃ n,L.man.next=n:=⟨_,rfl⟩
   rw [hn] at hm
   have HM:=hid hm
   have HRO:=hid hro
   clear hro hm hL5 hn hat
   go_wp2_with (fail)
   refine HRO.out.mono ?_
   rintro e w5 ⟨rfl,h5,_⟩
   have H5:=hid (show LgIn w.heap.size w w5 d l (fun _=>False) L5 from h5)
   clear h5 HRO
   obtain ⟨A5,n5,c5,h5⟩:=H5.out
   have hla:=Zdm h5
   have hl5:=HM.out.last.1
   have hlt5:=HM.out.lt
   rw [hl5,if_neg (by omega),decide_eq_false (show ¬ n=-1 by omega)] at hla
   have HLA:=hid hla
   have hsg:=Y3 h5 HM.out.r
   have hlen:n5=i+1:=by have:=h5.ints.len;rw [HM.out.len] at this;exact this.symm
   subst hlen
   have HSG:=hid hsg
   have hle:¬ n≤lv:=by omega
   clear hla hsg hl5 h5
   have hbt:(!false)=true:=rfl
   go_wp2_with (fail)
   refine HLA.out.mono ?_
   rintro e w6 ⟨rfl,rfl⟩
   clear HLA
   go_wp2_with (fail)
   refine HSG.out.mono ?_
   rintro e w7 ⟨A7,c7,rfl,_,hg7⟩
   have H7:=hid (H5.out.grow hg7)
   clear hg7 HSG
   have e6:((i+1:Nat):Int)=(i:Int)+1:=by omega
   obtain ⟨A8,n8,c8,h8⟩:=H7.out
   have HH:=hid (show ∀ x w',Grows w7 w'→Calls Tryz.prog 49 #[.pointer (some ⟨l,0,none⟩),.int .i64 x] w' (HiTo w' (Jv L5 x)) from fun x w' hC=>Zi0 x w' (h8.grow hC) HM.out.r HM.out.ok (by have:=HK.out;omega) (by omega))
   have HHN:=hid (HM.out.own)
   have HHI:=hid (HM.out.hinted HK.out.1)
   clear h8
   by_cases hlv:0 < lv
   ·have hlv':lv > 0:=hlv
    have HIV:=hid (HHI.out hlv)
    go_wp2_with (fail)
    refine (HH.out lv w7 (Grows.refl _)).mono ?_
    rintro e w8 ⟨A9,m9,c9,rfl,_,_,hg8⟩
    have HG8:=hid (show Grows w7 w8 from hg8)
    clear hg8
    rw [HIV.out]
    go_wp2_with (fail)
    refine (HH.out n w8 HG8.out).mono ?_
    rintro e w9 ⟨A10,m10,c10,rfl,_,_,hg9⟩
    have H9:=hid (H7.out.grow (Grows.trans HG8.out hg9))
    clear hg9
    rw [HHN.out]
    by_cases hin0:i < n0
    rotate_left 1
    ·have hin0':¬ ((i:Int) < (n0:Int)):=by omega
     have HN:=hid (show RO (i+1) L5 n from HM.out.next)
     go_wp2_with (fail)
     exact ⟨⟨i+1,_,n,HLT.out,rfl,rfl,H9,HN⟩,Zn HLT.out⟩
    have hin0':(i:Int) < (n0:Int):=by omega
    obtain ⟨ad,o,p,rfl,hblk,hoi,hin,hcs⟩:=HL.out.spot i hin0
    obtain ⟨q0,q1,q2,q3,q4,q5,q6⟩:=Zfz (by rw [Zj];exact hblk) hcs H9.out.low
    have HOI:=hid hoi
    obtain ⟨⟨LA,ln,lc⟩,⟨BA,bn,bc⟩⟩:=p
    have HIN:=hid (show RcIn w LA ln lc BA bn bc o from hin)
    dsimp only at q5 q6
    obtain ⟨s,hs⟩:∃ s:ByteArray,(⟨o.key.toArray⟩:ByteArray)=s:=⟨_,rfl⟩
    obtain ⟨k0,hk0⟩:∃ k,o.kind=k:=⟨_,rfl⟩
    obtain ⟨i0,hi0⟩:∃ k,o.id=k:=⟨_,rfl⟩
    obtain ⟨n9,hn9⟩:∃ k,o.no=k:=⟨_,rfl⟩
    obtain ⟨z0,hz0⟩:∃ k,o.size=k:=⟨_,rfl⟩
    rw [hs] at q1
    rw [hk0] at q0
    rw [hi0] at q2
    rw [hn9] at q3
    rw [hz0] at q4
    have HEQ:=hid (And.intro hk0 (And.intro hs (And.intro hi0 (And.intro hn9 hz0))))
    clear hblk hoi hin hcs hs hk0 hi0 hn9 hz0
    by_cases b1:bn≤5000
    rotate_left 1
    ·have b1':¬ ((bn:Int)≤5000):=by omega
     have HN:=hid (show RO (i+1) L5 n from HM.out.next)
     go_wp2_with (fail)
     exact ⟨⟨i+1,_,n,HLT.out,rfl,rfl,H9,HN⟩,Zn HLT.out⟩
    have b1':((bn:Int)≤5000):=by omega
    by_cases b2:ln≤600
    rotate_left 1
    ·have b2':¬ ((ln:Int)≤600):=by omega
     have HN:=hid (show RO (i+1) L5 n from HM.out.next)
     go_wp2_with (fail)
     exact ⟨⟨i+1,_,n,HLT.out,rfl,rfl,H9,HN⟩,Zn HLT.out⟩
    have b2':((ln:Int)≤600):=by omega
    by_cases b3:s.size≤2000
    rotate_left 1
    ·have b3':¬ ((s.size:Int)≤2000):=by omega
     have HN:=hid (show RO (i+1) L5 n from HM.out.next)
     go_wp2_with (fail)
     exact ⟨⟨i+1,_,n,HLT.out,rfl,rfl,H9,HN⟩,Zn HLT.out⟩
    have b3':((s.size:Int)≤2000):=by omega
    obtain ⟨AA2,an2,ac2,hat⟩:=H9.out
    have hadd:=Jf o LA ln lc BA bn bc w9 (fun w' hb=>HIN.out.grow hb) hat HM.out.r HM.out.ok (by have:=HK.out;omega) (by omega) (fun _=>by omega)
    rw [HEQ.out.1,HEQ.out.2.1,HEQ.out.2.2.1,HEQ.out.2.2.2.1,HEQ.out.2.2.2.2] at hadd
    have HADD:=hid hadd
    clear hadd hat
    have HN:=hid (show RO (i+1) (laddP L5 o).1 n from HM.out.add HK.out.1 o)
    obtain ⟨⟨L6,v6⟩,hL6⟩:∃ y,laddP L5 o=y:=⟨_,rfl⟩
    rw [hL6] at HADD HN
    obtain ⟨g1,g2,g3,g4⟩:=v6
    clear hL6
    go_wp2_with (fail)
    refine HADD.out.mono ?_
    rintro e w10 ⟨rfl,h10,_⟩
    have H10:=hid (show LgIn w.heap.size w w10 d l (fun _=>False) L6 from h10)
    clear h10 HADD
    go_wp2_with (fail)
    exact ⟨⟨i+1,_,n,HLT.out,rfl,rfl,H10,HN⟩,Zn HLT.out⟩
   ·have hlv':¬ lv > 0:=hlv
    go_wp2_with (fail)
    refine (HH.out n w7 (Grows.refl _)).mono ?_
    rintro e w9 ⟨A10,m10,c10,rfl,_,_,hg9⟩
    have H9:=hid (H7.out.grow hg9)
    clear hg9
    rw [HHN.out]
    by_cases hin0:i < n0
    rotate_left 1
    ·have hin0':¬ ((i:Int) < (n0:Int)):=by omega
     have HN:=hid (show RO (i+1) L5 n from HM.out.next)
     go_wp2_with (fail)
     exact ⟨⟨i+1,_,n,HLT.out,rfl,rfl,H9,HN⟩,Zn HLT.out⟩
    have hin0':(i:Int) < (n0:Int):=by omega
    obtain ⟨ad,o,p,rfl,hblk,hoi,hin,hcs⟩:=HL.out.spot i hin0
    obtain ⟨q0,q1,q2,q3,q4,q5,q6⟩:=Zfz (by rw [Zj];exact hblk) hcs H9.out.low
    have HOI:=hid hoi
    obtain ⟨⟨LA,ln,lc⟩,⟨BA,bn,bc⟩⟩:=p
    have HIN:=hid (show RcIn w LA ln lc BA bn bc o from hin)
    dsimp only at q5 q6
    obtain ⟨s,hs⟩:∃ s:ByteArray,(⟨o.key.toArray⟩:ByteArray)=s:=⟨_,rfl⟩
    obtain ⟨k0,hk0⟩:∃ k,o.kind=k:=⟨_,rfl⟩
    obtain ⟨i0,hi0⟩:∃ k,o.id=k:=⟨_,rfl⟩
    obtain ⟨n9,hn9⟩:∃ k,o.no=k:=⟨_,rfl⟩
    obtain ⟨z0,hz0⟩:∃ k,o.size=k:=⟨_,rfl⟩
    rw [hs] at q1
    rw [hk0] at q0
    rw [hi0] at q2
    rw [hn9] at q3
    rw [hz0] at q4
    have HEQ:=hid (And.intro hk0 (And.intro hs (And.intro hi0 (And.intro hn9 hz0))))
    clear hblk hoi hin hcs hs hk0 hi0 hn9 hz0
    by_cases b1:bn≤5000
    rotate_left 1
    ·have b1':¬ ((bn:Int)≤5000):=by omega
     have HN:=hid (show RO (i+1) L5 n from HM.out.next)
     go_wp2_with (fail)
     exact ⟨⟨i+1,_,n,HLT.out,rfl,rfl,H9,HN⟩,Zn HLT.out⟩
    have b1':((bn:Int)≤5000):=by omega
    by_cases b2:ln≤600
    rotate_left 1
    ·have b2':¬ ((ln:Int)≤600):=by omega
     have HN:=hid (show RO (i+1) L5 n from HM.out.next)
     go_wp2_with (fail)
     exact ⟨⟨i+1,_,n,HLT.out,rfl,rfl,H9,HN⟩,Zn HLT.out⟩
    have b2':((ln:Int)≤600):=by omega
    by_cases b3:s.size≤2000
    rotate_left 1
    ·have b3':¬ ((s.size:Int)≤2000):=by omega
     have HN:=hid (show RO (i+1) L5 n from HM.out.next)
     go_wp2_with (fail)
     exact ⟨⟨i+1,_,n,HLT.out,rfl,rfl,H9,HN⟩,Zn HLT.out⟩
    have b3':((s.size:Int)≤2000):=by omega
    obtain ⟨AA2,an2,ac2,hat⟩:=H9.out
    have hadd:=Jf o LA ln lc BA bn bc w9 (fun w' hb=>HIN.out.grow hb) hat HM.out.r HM.out.ok (by have:=HK.out;omega) (by omega) (fun _=>by omega)
    rw [HEQ.out.1,HEQ.out.2.1,HEQ.out.2.2.1,HEQ.out.2.2.2.1,HEQ.out.2.2.2.2] at hadd
    have HADD:=hid hadd
    clear hadd hat
    have HN:=hid (show RO (i+1) (laddP L5 o).1 n from HM.out.add HK.out.1 o)
    obtain ⟨⟨L6,v6⟩,hL6⟩:∃ y,laddP L5 o=y:=⟨_,rfl⟩
    rw [hL6] at HADD HN
    obtain ⟨g1,g2,g3,g4⟩:=v6
    clear hL6
    go_wp2_with (fail)
    refine HADD.out.mono ?_
    rintro e w10 ⟨rfl,h10,_⟩
    have H10:=hid (show LgIn w.heap.size w w10 d l (fun _=>False) L6 from h10)
    clear h10 HADD
    go_wp2_with (fail)
    exact ⟨⟨i+1,_,n,HLT.out,rfl,rfl,H10,HN⟩,Zn HLT.out⟩
  ·obtain rfl:i=many:=by omega
   have hlt':¬ ((i:Int) < (i:Int)):=by omega
   go_wp2_with (fail)
   go_ret
   exact ⟨rfl,HI.out.low⟩

theorem logRolls_lifted (os:Os) (started:os.Started) (H:Type) (enc:TypeId×Value→H) :
 ReturnsInHanded {} Tryz.checked os 7 .any (Rows.logRollsSpec.pre6 enc Tryz.prog Tryz.f7 Rows.logRollsRow.domain false) (Rows.logRollsSpec.post enc Tryz.prog Tryz.f7 false true false false):=by
 refine Zfn (C:=Tryz.checked) H enc own started (by kernel_rfl) Tryz.func7
  (ChangeSpec.witness6 (enc:=enc) (C:=Tryz.checked) false ⟨#[],#[.slice none 0 0,.int .u8 0],[]⟩ 16 (by kernel_rfl) (by kernel_rfl) (by kernel_rfl) (by kernel_rfl))
  laidOut (Zbj (by kernel_rfl)) rfl Tryz.underlying4 rfl (fun ds hd=>?_) (fun W base args ds p hval hA hsz=>?_)
 ·match ds,hd with
  | [d1,d2],_=>rfl
 ·rw [Tryz.params7] at hA hval hsz
  obtain ⟨v0,vs0,d0,ds0,p0,q0,hargs,rfl,rfl,h0,r0⟩:=trodAll_cons hA
  obtain ⟨v1,vs1,d1,ds1,p1,q1,rfl,rfl,rfl,h1,r1⟩:=trodAll_cons r0
  obtain ⟨rfl,rfl,rfl⟩:=trodAll_nil r1
  obtain rfl:args=#[v0,v1]:=by cases args;simp_all
  obtain ⟨A0,n0,c0,xs0,rfl,hx0⟩:=Zhl (hval 0 72 v0 rfl rfl) h0
  obtain ⟨a1,rfl,_,_,w1⟩:=open_int Tryz.underlying5 (hval 1 5 v1 rfl rfl) h1
  have b1:=bounds_u8 w1
  exact Zln W A0 n0 c0 xs0 hx0 a1 (by omega)

theorem logRolls_re:(Rows.logRollsRow.recurses==Tryz.pinned.checked.prog.recurses 7)=true:=by kernel_rfl
theorem logRolls_un:(Rows.logRollsRow.unfollowed==Tryz.pinned.checked.prog.unfollowed 7)=true:=by kernel_rfl
theorem logRolls_in:(Rows.logRollsRow.inPlace==Tryz.pinned.checked.prog.inPlace 7)=true:=by kernel_rfl
theorem logRolls_na:(Rows.logRollsRow.named==Tryz.pinned.checked.prog.varsNamed 7)=true:=by kernel_rfl
theorem logRolls_closed:joinedFacts Tryz.pinned.checked.prog 7 Tryz.f7 Rows.logRollsSpec Rows.logRollsRow=true:=by
 unfold joinedFacts
 rw [logRolls_re,logRolls_un,logRolls_in,logRolls_na]
 kernel_rfl
theorem logRolls_over:Rows.logRollsRow.holds Tryz.pinned (OpenSpec.ofChange Rows.logRollsSpec) :=
 OpenClaim.holds_of_wide 7 Tryz.f7 rfl rfl rfl rfl rfl rfl rfl ⟨rfl,rfl,rfl,rfl,rfl⟩ rfl rfl rfl rfl rfl (by kernel_rfl) Tryz.func7 logRolls_closed
  (of_decide_eq_true (by kernel_rfl)) (by unfold Func.isWrapper;first | (rw [if_pos (by decide +kernel)];kernel_rfl) | (rw [if_neg (by decide +kernel)];exact ⟨rfl,rfl⟩))
  (fun os started H enc _=>logRolls_lifted os started H enc)
theorem logRolls_holds:Rows.LogRollsSaid:=logRolls_over
end Go.Proofs.YtkelafkbmnjpeaaGreat
