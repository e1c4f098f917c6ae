import Derived.Test.YtkelafkbmnjpeaaGreatLgHead
import Derived.Test.YtkelafkbmnjpeaaGreatMG38
import Derived.Test.YtkelafkbmnjpeaaGreatMG39
import Derived.ProofKit
import Derived.ChangeOld
set_option maxHeartbeats 16000000
set_option maxRecDepth 100000
namespace Go.Proofs.YtkelafkbmnjpeaaGreat
open Go.Lib (hid)
open Go.ChangeShapes Go.WideShapes Go.ChangeAt Go.RowKit
attribute [local irreducible] wpF
theorem Zls (w:World) (A0:Option Addr) (n0 c0:Nat) (ls:List Rc) (hl:Recs w A0 n0 c0 ls) (n:Int) (hn:-9223372036854775808≤n∧n≤9223372036854775807) (x:Int) (hx:-9223372036854775808≤x∧x≤9223372036854775807) :
 Calls Tryz.prog 8 #[.slice A0 n0 c0,.int .i64 n,.int .i64 x] w fun e w'=>e=.returned (.bool true)∧Below w.heap.size w w':=by
 have HL:=hid hl
 have HNX:=hid (And.intro hn hx)
 obtain ⟨i1,hi1,hz1,hy1,hb1⟩:=info_parts infoInt
 have HI1:=hid (And.intro hi1 (And.intro hz1 (And.intro hy1 hb1)))
 clear hl hn hx hi1 hz1 hy1 hb1
 go_enter Tryz.func8,Tryz.ntmps8
 go_wp2_with (fail)
 refine (Zcr w).mono ?_
 rintro e w0 ⟨rfl,hb0⟩
 have HB0:=hid (show Grows w w0 from hb0)
 clear hb0
 go_wp2_with (fail)
 refine (Zf8 w0 4194304).mono ?_
 rintro e w1 ⟨d,rfl,hn⟩
 have HD1:=hid (show DkIn w.heap.size w w1 d (fun _=>False) (Dk.new 4194304) from DkIn.new hn HB0.out.size HB0.out (fun k h=>h.elim))
 clear hn
 by_cases h40:n0≤40
 rotate_left 1
 ·have h40':(n0:Int) > 40:=by omega
  go_wp2_with (fail)
  go_ret
  exact ⟨rfl,HD1.out.low⟩
 have h40':¬ ((n0:Int) > 40):=by omega
 go_wp2_with (fail)
 have hop:=Zaq 1048576 w1 HD1.out (LOk.new (S:=13) 4194304).ok (by omega)
 rw [Zfy (by omega)] at hop
 have HOP:=hid hop
 clear hop
 go_wp2_with (fail)
 refine HOP.out.mono ?_
 rintro e w2 ⟨hg2,(⟨h0,_⟩ | ⟨L,l,h0,_,rfl,hl⟩)⟩
 ·cases h0
 injection h0 with h0
 subst h0
 have HL2:=hid (show LgIn w.heap.size w w2 d l (fun _=>False) (LG0 1048576) from hl)
 clear hg2 hl HOP
 go_wp2_with (fail)
 go_loopw [11,12] (fun vw vi wr=>∃ (j:Nat) (L:Lg) (A:Option Addr) (q c:Nat) (rs:List Rc) (out:Nat→Prop),j≤n0∧q≤j∧vw=.slice A q c∧vi=.int .i64 (j:Nat)∧Hid (LgIn w.heap.size w wr d l out L)∧Hid (GJ L j rs)∧Hid (OwnG w.heap.size wr out 3 1 A q c ((posL rs).map intV))∧Hid (q=(posL rs).length)) (fun _ i _=>n0 - (intOf i).toNat)
 case atStart=>exact ⟨0,_,none,0,0,[],fun _=>False,Nat.zero_le _,Nat.le_refl _,rfl,rfl,HL2,hid GJ.new,hid (OwnG.nil _ _ _ _ _),hid rfl⟩
 case round =>
  obtain ⟨j,L,A,q,c,rs,out,hj,hq,rfl,rfl,HI,HG,HO,HQ⟩:=hrel
  clear HL2 HD1
  by_cases hlt:j < n0
  ·have hlt':(j:Int) < (n0:Int):=by omega
   have hj0:(0:Int)≤(j:Int):=by omega
   have e5:IntKind.i64.wrap ((j:Int)+1)=(j:Int)+1:=IntWalk.i64_in _ ⟨by omega,by omega⟩
   have HK:=hid (show j≤40∧q≤j by omega)
   obtain ⟨ad,o,p,rfl,hblk,hoi,hin,hcs⟩:=HL.out.spot j hlt
   obtain ⟨q0,q1,q2,q3,q4,q5,q6⟩:=Zfz (by rw [Zj];exact hblk) hcs HI.out.low
   have HLT:=hid hlt
   have HOI:=hid hoi
   obtain ⟨⟨LA,ln,lc⟩,⟨BA,bn,bc⟩⟩:=p
   have HIN:=hid (show RcIn w LA ln lc BA bn bc o from hin)
   dsimp only at q5 q6
   obtain ⟨s,hs⟩:∃ s:ByteArray,(⟨o.key.toArray⟩:ByteArray)=s:=⟨_,rfl⟩
   obtain ⟨k0,hk0⟩:∃ k,o.kind=k:=⟨_,rfl⟩
   obtain ⟨i0,hi0⟩:∃ k,o.id=k:=⟨_,rfl⟩
   obtain ⟨n9,hn9⟩:∃ k,o.no=k:=⟨_,rfl⟩
   obtain ⟨z0,hz0⟩:∃ k,o.size=k:=⟨_,rfl⟩
   rw [hs] at q1
   rw [hk0] at q0
   rw [hi0] at q2
   rw [hn9] at q3
   rw [hz0] at q4
   have HEQ:=hid (And.intro hk0 (And.intro hs (And.intro hi0 (And.intro hn9 hz0))))
   clear hblk hoi hin hcs hs hk0 hi0 hn9 hz0
   by_cases b1:bn≤5000
   rotate_left 1
   ·have b1':(bn:Int) > 5000:=by omega
    go_wp2_with (fail)
    go_ret
    exact ⟨rfl,HI.out.low⟩
   have b1':¬ ((bn:Int) > 5000):=by omega
   by_cases b2:ln≤600
   rotate_left 1
   ·have b2':(ln:Int) > 600:=by omega
    go_wp2_with (fail)
    go_ret
    exact ⟨rfl,HI.out.low⟩
   have b2':¬ ((ln:Int) > 600):=by omega
   by_cases b3:s.size≤2000
   rotate_left 1
   ·have b3':(s.size:Int) > 2000:=by omega
    go_wp2_with (fail)
    go_ret
    exact ⟨rfl,HI.out.low⟩
   have b3':¬ ((s.size:Int) > 2000):=by omega
   obtain ⟨S,hok,hS1,hS2,hS3⟩:=HG.out.ok
   obtain ⟨AA,an,ac,hat⟩:=HI.out
   have hadd:=Jf o LA ln lc BA bn bc wr (fun w' hb=>HIN.out.grow hb) hat HG.out.gi.r hok (by have:=HK.out;omega) (by have:=HK.out;omega) (HG.out.roll (by have:=HK.out;omega) hS3 o)
   rw [HEQ.out.1,HEQ.out.2.1,HEQ.out.2.2.1,HEQ.out.2.2.2.1,HEQ.out.2.2.2.2] at hadd
   have HADD:=hid hadd
   clear hadd hat
   clear hok hS1 hS2 hS3
   by_cases hr:Zp o
   rotate_left 1
   ·have HG5:=hid (HG.out.ill hr)
    have he:(laddP L o).2=(0,0,0,1):=by rw [(HG.out.gi.ill hr).1]
    obtain ⟨⟨L5,v5⟩,hL5⟩:∃ y,laddP L o=y:=⟨_,rfl⟩
    rw [hL5] at HADD HG5 he
    dsimp only at he
    subst he
    clear hL5 hr
    go_wp2_with (fail)
    refine HADD.out.mono ?_
    rintro e w5 ⟨rfl,h5,st5⟩
    have HI5:=hid (show LgIn w.heap.size w w5 d l out L5 from h5)
    have HO5:=hid (HO.out.stays st5)
    clear h5 st5 HADD
    go_wp2_with (fail)
    exact ⟨⟨j+1,L5,A,q,c,rs,out,HLT.out,by have:=HK.out;omega,rfl,rfl,HI5,HG5,HO5,HQ⟩,Zn HLT.out⟩
   have HG5:=hid (HG.out.right (by have:=HK.out;omega) hr)
   have he:=(HG.out.gi.right (by have:=HK.out;omega) hr).1
   have HPS:=hid (Zs6 rs o)
   obtain ⟨aa,haa⟩:∃ aa:Int,((segB 1 rs).length:Int)=aa:=⟨_,rfl⟩
   obtain ⟨fs,hfs⟩:∃ fs:Int,((frS o).length:Int)=fs:=⟨_,rfl⟩
   rw [haa,hfs] at he
   rw [haa] at HPS
   obtain ⟨⟨L5,v5⟩,hL5⟩:∃ y,laddP L o=y:=⟨_,rfl⟩
   rw [hL5] at HADD HG5 he
   dsimp only at he
   subst he
   obtain ⟨rs',hrs'⟩:∃ y,rs++[o]=y:=⟨_,rfl⟩
   rw [hrs'] at HG5 HPS
   clear hL5 hr haa hfs hrs'
   go_wp2_with (fail)
   refine HADD.out.mono ?_
   rintro e w5 ⟨rfl,h5,st5⟩
   have HI5:=hid (show LgIn w.heap.size w w5 d l out L5 from h5)
   have HO5:=hid (HO.out.stays st5)
   clear h5 st5 HADD
   have hga:=Za w5 (.cells #[.int .i64 aa] 3)
   have HM6:=hid (Whole.made w5 3 #[.int .i64 aa])
   have HI6:=hid (HI5.out.grow hga)
   have HO6:=hid (HO5.out.grow hga)
   clear hga
   go_wp2_with (first
    | (at_builtin
       refine Zdd rfl (.tmp 86) (.tmp 88) 40 rfl w.heap.size 3 i1 (.int .i64 0) 1 8 Tryz.underlying40 HI1.out.1 HI1.out.2.1 HI1.out.2.2.1 HI1.out.2.2.2 rfl (by decide) rfl
        HO6.out.own rfl (Ints.lit HM6.out [aa] rfl rfl).row (fun h=>by cases h) (Zn6 [aa]) (q+1) rfl (by unfold maxLen;have:=HK.out;omega) (by have:=HK.out;omega) HI6.out.size ?_
       intro A9 c9 w9 hown9 hgrow9 hat9
       have HO9:=hid (And.intro hown9 (And.intro hgrow9 hat9))
       clear hown9 hgrow9 hat9)
    | fail)
   obtain ⟨hown9,hgrow9,hat9⟩:=HO9.out
   exact ⟨⟨j+1,L5,A9,q+1,c9,rs',_,HLT.out,by have:=HK.out;omega,rfl,rfl,hid (HI6.out.grown hgrow9 HO6.out.mine HO6.out.low),HG5,hid (by
    rw [HPS.out,List.map_append]
    exact HO6.out.snoc hown9 hat9 (fun hv=>.inr ⟨Nat.le_refl _,hv⟩) fun k hk=>.inl hk),hid (by rw [HPS.out,List.length_append,←HQ.out];rfl)⟩,Zn HLT.out⟩
  ·obtain rfl:j=n0:=by omega
   have hlt':¬ ((j:Int) < (j:Int)):=by omega
   have HK:=hid (show j≤40∧q≤j by omega)
   obtain ⟨AA,an,ac,hat⟩:=HI.out
   obtain ⟨S,hok,hS1,hS2,hS3⟩:=HG.out.ok
   have HDN:=hid (show ∀ w',Grows wr w'→Calls Tryz.prog 30 #[.pointer (some ⟨d,0,none⟩)] w' fun e w''=>e=.returned (.int .i64 L.dk.done)∧w'=w'' from fun w' hC=>Zwk (hat.grow hC).dk)
   have HGET:=hid (Zi5 n x ⟨HNX.out.2.1,HNX.out.2.2⟩ wr hat HG.out.gi.r hok.ok (by have:=HK.out;omega))
   clear hat hok hS1 hS2 hS3
   obtain ⟨dn,hdn⟩:∃ dn,L.dk.done=dn:=⟨_,rfl⟩
   rw [hdn] at HDN
   have HQI:=hid (Ints.owned HO.out.own)
   obtain ⟨⟨gr,ge⟩,hgr⟩:∃ y,lgetP L n x=y:=⟨_,rfl⟩
   rw [hgr] at HGET
   have HGE:=hid (show ge=(lgetP L n x).2 by rw [hgr])
   clear hdn hgr
   go_wp2_with (fail)
   refine (HDN.out wr (Grows.refl _)).mono ?_
   rintro e w3 ⟨rfl,rfl⟩
   go_wp2_with (fail)
   refine HGET.out.mono ?_
   rintro e w5 ⟨LA,ln,lc,BA,bn,bc,rfl,_,hg5⟩
   have HG5:=hid (Grows.trans hg5 (Za w5 (.cells #[.int .i64 gr.kind,.string ⟨gr.key.toArray⟩,.int .i64 gr.id,.int .i64 gr.no,.int .i64 gr.size,.slice LA ln lc,.slice BA bn bc] 39)))
   clear hg5 HGET
   unfold rcV
   have hq0:(q:Int)≥0:=by omega
   obtain ⟨w6,hw6⟩:∃ z,w5.alloc (.cells #[.int .i64 gr.kind,.string ⟨gr.key.toArray⟩,.int .i64 gr.id,.int .i64 gr.no,.int .i64 gr.size,.slice LA ln lc,.slice BA bn bc] 39)=z:=⟨_,rfl⟩
   rw [hw6] at HG5
   have HDN6:=hid (fun w' (hC:Grows w6 w')=>HDN.out w' (Grows.trans HG5.out hC))
   have hmem:x∈posL rs→q≠0:=fun h e=>by
    have h1:=HQ.out
    rw [e] at h1
    rw [List.eq_nil_of_length_eq_zero h1.symm] at h
    cases h
   have HHAS:=hid (show ∀ w',Grows w6 w'→Calls Tryz.prog 41 #[.slice A q c,.int .i64 x] w' fun e w''=>e=.returned (.bool (decide (x∈posL rs)))∧Grows w' w'' from fun w' hC=>Zbe A q c (posL rs) x w' (Ints.owned ((HO.out.grow HG5.out).grow hC).own).row (by have:=HK.out;omega))
   by_cases hz:q=0∨n≠1
   ·have hg3:ge=3:=by
     rw [HGE.out]
     exact HG.out.gi.none (hz.elim (fun e=>.inr (List.eq_nil_of_length_eq_zero (by rw [←HQ.out];exact e))) .inl)
    subst hg3
    by_cases hq0:q=0
    ·subst hq0
     go_wp2_with (first | rw [hw6] | fail)
     refine (HDN.out w6 (HG5.out)).mono ?_
     rintro e w9 ⟨rfl,rfl⟩
     go_wp2_with (fail)
     go_ret
     exact ⟨rfl,(HI.out.grow (HG5.out)).low⟩
    ·have hn1:n≠1:=hz.resolve_left hq0
     have hq1:((q:Int)==0)=false:=by rw [beq_eq_false_iff_ne];omega
     have hn2:(n != 1)=true:=by rw [bne_iff_ne];exact hn1
     clear hz hmem hq0
     go_wp2_with (first | rw [hw6] | fail)
     refine (HDN.out w6 (HG5.out)).mono ?_
     rintro e w9 ⟨rfl,rfl⟩
     go_wp2_with (fail)
     go_ret
     exact ⟨rfl,(HI.out.grow (HG5.out)).low⟩
   ·have hq0:q≠0:=fun e=>hz (.inl e)
    have hn1:n=1:=Classical.byContradiction fun e=>hz (.inr e)
    subst hn1
    have hq1:((q:Int)==0)=false:=by rw [beq_eq_false_iff_ne];omega
    have hg:=HG.out.gi.get (fun e=>hq0 (by rw [HQ.out,e];rfl)) x
    rw [←HGE.out] at hg
    obtain ⟨hb,hbe⟩:∃ b,decide (x∈posL rs)=b:=⟨_,rfl⟩
    rw [hbe] at HHAS
    have hga:hb=true→ge=0:=fun e=>hg.1 (of_decide_eq_true (hbe.trans e))
    have hgb:x < 0∨1048576≤x→ge=1:=fun e=>hg.2 e (by have:=HK.out;omega)
    clear hz hmem hq0 hg hbe
    by_cases hx0:0≤x
    ·by_cases hx1:x < 4194304
     ·cases hb with
      | true =>
        have hg0:=hga rfl
        subst hg0
        clear hga hgb
        go_wp2_with (first | rw [hw6] | fail)
        refine (HHAS.out w6 (Grows.refl _)).mono ?_
        rintro e w7 ⟨rfl,hg7⟩
        have HG7:=hid (Grows.trans HG5.out hg7)
        clear hg7
        go_wp2_with (first | rw [hw6] | fail)
        refine (HDN.out w7 (HG7.out)).mono ?_
        rintro e w9 ⟨rfl,rfl⟩
        go_wp2_with (fail)
        go_ret
        exact ⟨rfl,(HI.out.grow (HG7.out)).low⟩
      | false =>
        clear hga hgb
        go_wp2_with (first | rw [hw6] | fail)
        refine (HHAS.out w6 (Grows.refl _)).mono ?_
        rintro e w7 ⟨rfl,hg7⟩
        have HG7:=hid (Grows.trans HG5.out hg7)
        clear hg7
        go_wp2_with (first | rw [hw6] | fail)
        refine (HDN.out w7 (HG7.out)).mono ?_
        rintro e w9 ⟨rfl,rfl⟩
        go_wp2_with (fail)
        go_ret
        exact ⟨rfl,(HI.out.grow (HG7.out)).low⟩
     ·have hg1:=hgb (by omega)
      subst hg1
      cases hb with
      | true=>exact absurd (hga rfl) (by decide)
      | false =>
        clear hga hgb
        go_wp2_with (first | rw [hw6] | fail)
        refine (HHAS.out w6 (Grows.refl _)).mono ?_
        rintro e w7 ⟨rfl,hg7⟩
        have HG7:=hid (Grows.trans HG5.out hg7)
        clear hg7
        go_wp2_with (first | rw [hw6] | fail)
        refine (HDN.out w7 (HG7.out)).mono ?_
        rintro e w9 ⟨rfl,rfl⟩
        go_wp2_with (fail)
        go_ret
        exact ⟨rfl,(HI.out.grow (HG7.out)).low⟩
    ·have hg1:=hgb (by omega)
     subst hg1
     cases hb with
     | true=>exact absurd (hga rfl) (by decide)
     | false =>
       clear hga hgb
       go_wp2_with (first | rw [hw6] | fail)
       refine (HHAS.out w6 (Grows.refl _)).mono ?_
       rintro e w7 ⟨rfl,hg7⟩
       have HG7:=hid (Grows.trans HG5.out hg7)
       clear hg7
       go_wp2_with (first | rw [hw6] | fail)
       refine (HDN.out w7 (HG7.out)).mono ?_
       rintro e w9 ⟨rfl,rfl⟩
       go_wp2_with (fail)
       go_ret
       exact ⟨rfl,(HI.out.grow (HG7.out)).low⟩

theorem logGets_lifted (os:Os) (started:os.Started) (H:Type) (enc:TypeId×Value→H) :
 ReturnsInHanded {} Tryz.checked os 8 .any (Rows.logGetsSpec.pre6 enc Tryz.prog Tryz.f8 Rows.logGetsRow.domain false) (Rows.logGetsSpec.post enc Tryz.prog Tryz.f8 false true false false):=by
 refine Zfn (C:=Tryz.checked) H enc own started (by kernel_rfl) Tryz.func8
  (ChangeSpec.witness6 (enc:=enc) (C:=Tryz.checked) false ⟨#[],#[.slice none 0 0,.int .i64 0,.int .i64 0],[]⟩ 16 (by kernel_rfl) (by kernel_rfl) (by kernel_rfl) (by kernel_rfl))
  laidOut (Zbj (by kernel_rfl)) rfl Tryz.underlying4 rfl (fun ds hd=>?_) (fun W base args ds p hval hA hsz=>?_)
 ·match ds,hd with
  | [d1,d2,d3],_=>rfl
 ·rw [Tryz.params8] at hA hval hsz
  obtain ⟨v0,vs0,d0,ds0,p0,q0,hargs,rfl,rfl,h0,r0⟩:=trodAll_cons hA
  obtain ⟨v1,vs1,d1,ds1,p1,q1,rfl,rfl,rfl,h1,r1⟩:=trodAll_cons r0
  obtain ⟨v2,vs2,d2,ds2,p2,q2,rfl,rfl,rfl,h2,r2⟩:=trodAll_cons r1
  obtain ⟨rfl,rfl,rfl⟩:=trodAll_nil r2
  obtain rfl:args=#[v0,v1,v2]:=by cases args;simp_all
  obtain ⟨A0,n0,c0,xs0,rfl,hx0⟩:=Zhl (hval 0 72 v0 rfl rfl) h0
  obtain ⟨a1,rfl,_,_,w1⟩:=open_int Tryz.underlying3 (hval 1 3 v1 rfl rfl) h1
  have b1:=bounds_i64 w1
  obtain ⟨a2,rfl,_,_,w2⟩:=open_int Tryz.underlying3 (hval 2 3 v2 rfl rfl) h2
  have b2:=bounds_i64 w2
  exact Zls W A0 n0 c0 xs0 hx0 a1 (by omega) a2 (by omega)

theorem logGets_re:(Rows.logGetsRow.recurses==Tryz.pinned.checked.prog.recurses 8)=true:=by kernel_rfl
theorem logGets_un:(Rows.logGetsRow.unfollowed==Tryz.pinned.checked.prog.unfollowed 8)=true:=by kernel_rfl
theorem logGets_in:(Rows.logGetsRow.inPlace==Tryz.pinned.checked.prog.inPlace 8)=true:=by kernel_rfl
theorem logGets_na:(Rows.logGetsRow.named==Tryz.pinned.checked.prog.varsNamed 8)=true:=by kernel_rfl
theorem logGets_closed:joinedFacts Tryz.pinned.checked.prog 8 Tryz.f8 Rows.logGetsSpec Rows.logGetsRow=true:=by
 unfold joinedFacts
 rw [logGets_re,logGets_un,logGets_in,logGets_na]
 kernel_rfl
theorem logGets_over:Rows.logGetsRow.holds Tryz.pinned (OpenSpec.ofChange Rows.logGetsSpec) :=
 OpenClaim.holds_of_wide 8 Tryz.f8 rfl rfl rfl rfl rfl rfl rfl ⟨rfl,rfl,rfl,rfl,rfl⟩ rfl rfl rfl rfl rfl (by kernel_rfl) Tryz.func8 logGets_closed
  (of_decide_eq_true (by kernel_rfl)) (by unfold Func.isWrapper;first | (rw [if_pos (by decide +kernel)];kernel_rfl) | (rw [if_neg (by decide +kernel)];exact ⟨rfl,rfl⟩))
  (fun os started H enc _=>logGets_lifted os started H enc)
theorem logGets_holds:Rows.LogGetsSaid:=logGets_over
end Go.Proofs.YtkelafkbmnjpeaaGreat
