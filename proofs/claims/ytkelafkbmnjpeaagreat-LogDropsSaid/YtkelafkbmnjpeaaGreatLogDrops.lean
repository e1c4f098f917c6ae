import Derived.Test.YtkelafkbmnjpeaaGreatMG40
import Derived.Test.YtkelafkbmnjpeaaGreatLgHead
import Derived.Test.YtkelafkbmnjpeaaGreatMG39
import Derived.ProofKit
import Derived.ChangeOld
set_option maxHeartbeats 16000000
set_option maxRecDepth 100000
namespace Go.Proofs.YtkelafkbmnjpeaaGreat
open Go.Lib (hid)
open Go.ChangeShapes Go.WideShapes Go.ChangeAt Go.RowKit
attribute [local irreducible] wpF
theorem Zlo (w:World) (u:Int) (hu:0≤u∧u≤65535) (A0:Option Addr) (n0 c0:Nat) (ls:List Rc) (hl:Recs w A0 n0 c0 ls) (A1:Option Addr) (n1 c1:Nat) (ds:List Int) (hd:Ints w A1 n1 c1 ds) :
 Calls Tryz.prog 6 #[.int .u16 u,.slice A0 n0 c0,.slice A1 n1 c1] w fun e w'=>e=.returned (.bool true)∧Below w.heap.size w w':=by
 have HL:=hid hl
 have HDS:=hid hd
 clear hl hd
 have hm1:IntKind.i64.wrap u=u:=IntWalk.i64_in _ (by omega)
 obtain ⟨lim,hlim⟩:∃ x,64+u=x:=⟨_,rfl⟩
 have hm2:IntKind.i64.wrap (64+u)=lim:=by rw [hlim];exact IntWalk.i64_in _ (by omega)
 have HLIM:=hid (show 64≤lim∧lim≤65599 by omega)
 clear hlim hu
 go_enter Tryz.func6,Tryz.ntmps6
 go_wp2_with (fail)
 refine (Zcr w).mono ?_
 rintro e w0 ⟨rfl,hb0⟩
 have HB0:=hid (show Grows w w0 from hb0)
 clear hb0
 go_wp2_with (fail)
 refine (Zf8 w0 4194304).mono ?_
 rintro e w1 ⟨d,rfl,hn⟩
 have HD1:=hid (show DkIn w.heap.size w w1 d (fun _=>False) (Dk.new 4194304) from DkIn.new hn HB0.out.size HB0.out (fun k h=>h.elim))
 clear hn
 by_cases h60:n0≤60
 rotate_left 1
 ·have h60':(n0:Int) > 60:=by omega
  go_wp2_with (fail)
  go_ret
  exact ⟨rfl,HD1.out.low⟩
 have h60':¬ ((n0:Int) > 60):=by omega
 by_cases g60:n1≤60
 rotate_left 1
 ·have g60':(n1:Int) > 60:=by omega
  go_wp2_with (fail)
  go_ret
  exact ⟨rfl,HD1.out.low⟩
 have g60':¬ ((n1:Int) > 60):=by omega
 go_wp2_with (fail)
 have hop:=Zaq lim w1 HD1.out (LOk.new (S:=13) 4194304).ok (by omega)
 rw [Zfy (by have:=HLIM.out;omega)] at hop
 have HOP:=hid hop
 clear hop
 go_wp2_with (fail)
 refine HOP.out.mono ?_
 rintro e w2 ⟨hg2,(⟨h0,_⟩ | ⟨L,l,h0,_,rfl,hl⟩)⟩
 ·cases h0
 injection h0 with h0
 subst h0
 have HL2:=hid (show LgIn w.heap.size w w2 d l (fun _=>False) (LG0 lim) from hl)
 clear hg2 hl HOP
 go_wp2_with (fail)
 go_loopw [11] (fun vi wr=>∃ (j:Nat) (L:Lg),j≤n0∧vi=.int .i64 (j:Nat)∧Hid (LgIn w.heap.size w wr d l (fun _=>False) L)∧Hid (DR j L)) (fun i _=>n0 - (intOf i).toNat)
 case atStart=>exact ⟨0,_,Nat.zero_le _,rfl,HL2,hid (DR.new HLIM.out)⟩
 case round =>
  obtain ⟨j,L,hj,rfl,HI,HR⟩:=hrel
  clear HL2 HD1
  by_cases hlt:j < n0
  ·have hlt':(j:Int) < (n0:Int):=by omega
   have hj0:(0:Int)≤(j:Int):=by omega
   have e5:IntKind.i64.wrap ((j:Int)+1)=(j:Int)+1:=IntWalk.i64_in _ ⟨by omega,by omega⟩
   have HK:=hid (show j≤60 by omega)
   obtain ⟨ad,o,p,rfl,hblk,hoi,hin,hcs⟩:=HL.out.spot j hlt
   obtain ⟨q0,q1,q2,q3,q4,q5,q6⟩:=Zfz (by rw [Zj];exact hblk) hcs HI.out.low
   have HLT:=hid hlt
   have HOI:=hid hoi
   obtain ⟨⟨LA,ln,lc⟩,⟨BA,bn,bc⟩⟩:=p
   have HIN:=hid (show RcIn w LA ln lc BA bn bc o from hin)
   dsimp only at q5 q6
   obtain ⟨s,hs⟩:∃ s:ByteArray,(⟨o.key.toArray⟩:ByteArray)=s:=⟨_,rfl⟩
   obtain ⟨k0,hk0⟩:∃ k,o.kind=k:=⟨_,rfl⟩
   obtain ⟨i0,hi0⟩:∃ k,o.id=k:=⟨_,rfl⟩
   obtain ⟨n9,hn9⟩:∃ k,o.no=k:=⟨_,rfl⟩
   obtain ⟨z0,hz0⟩:∃ k,o.size=k:=⟨_,rfl⟩
   rw [hs] at q1
   rw [hk0] at q0
   rw [hi0] at q2
   rw [hn9] at q3
   rw [hz0] at q4
   have HEQ:=hid (And.intro hk0 (And.intro hs (And.intro hi0 (And.intro hn9 hz0))))
   clear hblk hoi hin hcs hs hk0 hi0 hn9 hz0
   by_cases b1:bn≤5000
   rotate_left 1
   ·have b1':(bn:Int) > 5000:=by omega
    go_wp2_with (fail)
    go_ret
    exact ⟨rfl,HI.out.low⟩
   have b1':¬ ((bn:Int) > 5000):=by omega
   by_cases b2:ln≤600
   rotate_left 1
   ·have b2':(ln:Int) > 600:=by omega
    go_wp2_with (fail)
    go_ret
    exact ⟨rfl,HI.out.low⟩
   have b2':¬ ((ln:Int) > 600):=by omega
   by_cases b3:s.size≤2000
   rotate_left 1
   ·have b3':(s.size:Int) > 2000:=by omega
    go_wp2_with (fail)
    go_ret
    exact ⟨rfl,HI.out.low⟩
   have b3':¬ ((s.size:Int) > 2000):=by omega
   obtain ⟨AA,an,ac,hat⟩:=HI.out
   have hadd:=Jf o LA ln lc BA bn bc wr (fun w' hb=>HIN.out.grow hb) hat HR.out.r HR.out.ok (by have:=HK.out;omega) (by omega) (fun _=>by omega)
   rw [HEQ.out.1,HEQ.out.2.1,HEQ.out.2.2.1,HEQ.out.2.2.2.1,HEQ.out.2.2.2.2] at hadd
   have HADD:=hid hadd
   clear hadd hat
   have HN:=hid (HR.out.add HK.out o)
   obtain ⟨⟨L5,v5⟩,hL5⟩:∃ y,laddP L o=y:=⟨_,rfl⟩
   rw [hL5] at HADD HN
   obtain ⟨g1,g2,g3,g4⟩:=v5
   clear hL5
   go_wp2_with (fail)
   refine HADD.out.mono ?_
   rintro e w5 ⟨rfl,h5,_⟩
   have HI5:=hid (show LgIn w.heap.size w w5 d l (fun _=>False) L5 from h5)
   clear h5 HADD
   go_wp2_with (fail)
   exact ⟨⟨j+1,L5,HLT.out,rfl,HI5,HN⟩,Zn HLT.out⟩
  obtain rfl:j=n0:=by omega
  have hlt':¬ ((j:Int) < (j:Int)):=by omega
  have HK:=hid (show j≤60∧n1≤60 by omega)
  obtain ⟨AA,n,ac,hat⟩:=HI.out
  have HSG:=hid (Y3 hat HR.out.r)
  have hnl:=hat.ints.len
  have hnb:n≤1000:=by rw [←hnl];exact HR.out.r.few
  have HNL:=hid (And.intro hnl hnb)
  clear hat hnl hnb hlt
  go_wp2_with (fail)
  refine HSG.out.mono ?_
  rintro e w5 ⟨A5,c5,rfl,ho5,hg5⟩
  have HO:=hid (show OwnG w.heap.size w5 (fun k=>False∨(wr.heap.size≤k∧k < w5.heap.size)) 3 1 A5 n c5 (L.man.segs.map iV) from ⟨Zg ho5 HI.out.size,fun g e=>.inr (ho5.lt g e)⟩)
  have H5:=hid (HI.out.more hg5)
  obtain ⟨out,hout⟩:∃ o,(fun k=>False∨(wr.heap.size≤k∧k < w5.heap.size))=o:=⟨_,rfl⟩
  rw [hout] at HO H5
  clear hout ho5 hg5 HSG HI
  obtain ⟨A6,n6,c6,h6⟩:=H5.out
  have hla:=Zdm h6
  obtain ⟨is,his⟩:∃ b,(!decide (L.last=-1))=b:=⟨_,rfl⟩
  obtain ⟨lv,hlv⟩:∃ b,(if L.last=-1 then 0 else L.last)=b:=⟨_,rfl⟩
  rw [his,hlv] at hla
  have HLV:=hid (show (is=false→L.last=-1)∧(is=true→L.last=lv) by
   constructor
   ·intro e
    rw [e] at his
    simpa using his
   ·intro e
    rw [e] at his
    rw [if_neg (by simpa using his)] at hlv
    exact hlv)
  have HLA:=hid hla
  clear hla his hlv h6
  go_wp2_with (fail)
  refine HLA.out.mono ?_
  rintro e w6 ⟨rfl,rfl⟩
  clear HLA
  go_wp2_with (fail)
  go_loopw [15,16] (fun vf vi wr=>∃ (i:Nat) (f:Bool),i≤n1∧vf=.bool f∧vi=.int .i64 (i:Nat)∧Hid (Yt L (ds.take i)=f)∧Hid (Grows w5 wr)) (fun _ i _=>n1 - (intOf i).toNat)
  case atStart=>exact ⟨0,true,Nat.zero_le _,rfl,rfl,hid rfl,hid (Grows.refl _)⟩
  case round =>
   obtain ⟨i,f,hi,rfl,rfl,HF,HG⟩:=hrel
   have HX:=hid (HDS.out.grow H5.out.low)
   by_cases hlt:i < n1
   ·have hlt':(i:Int) < (n1:Int):=by omega
    have hj0:(0:Int)≤(i:Int):=by omega
    have e5:IntKind.i64.wrap ((i:Int)+1)=(i:Int)+1:=IntWalk.i64_in _ ⟨by omega,by omega⟩
    have HLT:=hid hlt
    obtain ⟨ad,y,rfl,hc1,hx1,_⟩:=(HX.out.grow HG.out).get hlt
    have HN:=Zvn (L:=L) hx1
    rw [HF.out] at HN
    have HN:=hid HN
    cases f with
    | false =>
      have HN2:=hid (show Yt L (ds.take (i+1))=false by rw [HN.out];rfl)
      go_wp2_with (fail)
      exact ⟨⟨i+1,false,HLT.out,rfl,rfl,HN2,HG⟩,Zn HLT.out⟩
    | true =>
      have HHAS:=hid (Zbe A5 n c5 L.man.segs y wr (Ints.owned (HO.out.grow HG.out).own).row (by have:=HNL.out;omega))
      obtain ⟨hb,hbe⟩:∃ b,decide (y∈L.man.segs)=b:=⟨_,rfl⟩
      rw [hbe] at HHAS
      have hhb:L.has y=hb:=hbe
      rw [hhb] at HN
      have HBE:=hid hbe
      clear hbe hhb
      have hcc:∀ w',Grows wr w'→w'.cell? (ad.add i)=some (.int .i64 y):=fun w' hC=>by
       rw [hC.cell (World.block_lt_of_cell? _ _ hc1)]
       exact hc1
      go_wp2_with (fail)
      refine HHAS.out.mono ?_
      rintro e w7 ⟨rfl,hg7⟩
      have hc7:=hcc w7 hg7
      have HG7:=hid (Grows.trans HG.out hg7)
      clear hg7 HHAS hcc hc1
      cases hb with
      | false =>
        have HN2:=hid (show Yt L (ds.take (i+1))=false by rw [HN.out];rfl)
        go_wp2_with (fail)
        exact ⟨⟨i+1,false,HLT.out,rfl,rfl,HN2,HG7⟩,Zn HLT.out⟩
      | true =>
        cases is with
        | false =>
          have HN2:=hid (show Yt L (ds.take (i+1))=true by
           rw [HN.out,decide_eq_false fun e=>?_]
           ·rfl
           ·have h1:=HR.out.r.seg (of_decide_eq_true HBE.out)
            have h2:=HLV.out.1 rfl
            omega)
          go_wp2_with (fail)
          exact ⟨⟨i+1,true,HLT.out,rfl,rfl,HN2,HG7⟩,Zn HLT.out⟩
        | true =>
          have hlv:=HLV.out.2 rfl
          rw [hlv] at HN
          clear hlv
          by_cases hy:y=lv
          ·have hyf:(y != lv)=false:=by rw [bne_eq_false_iff_eq];exact hy
           have HN2:=hid (show Yt L (ds.take (i+1))=false by rw [HN.out,decide_eq_true hy];rfl)
           clear hy
           go_wp2_with (fail)
           exact ⟨⟨i+1,false,HLT.out,rfl,rfl,HN2,HG7⟩,Zn HLT.out⟩
          ·have hyf:(y != lv)=true:=by rw [bne_iff_ne];exact hy
           have HN2:=hid (show Yt L (ds.take (i+1))=true by rw [HN.out,decide_eq_false hy];rfl)
           clear hy
           go_wp2_with (fail)
           exact ⟨⟨i+1,true,HLT.out,rfl,rfl,HN2,HG7⟩,Zn HLT.out⟩
   obtain rfl:i=n1:=by omega
   have hlt':¬ ((i:Int) < (i:Int)):=by omega
   rw [List.take_of_length_le (by rw [HX.out.len];exact Nat.le_refl _)] at HF
   obtain ⟨A7,n7,c7,h7⟩:=H5.out.grow HG.out
   have hdr:=Zee A1 i c1 ds wr (HX.out.grow HG.out) (by have:=HK.out;omega) (fun ad e hne=>.inl (HDS.out.blk ad e hne)) h7 HR.out.r HR.out.ok (by have:=HK.out;omega) (by omega)
   have HDR:=hid hdr
   have HO7:=hid (HO.out.grow HG.out)
   clear hdr h7 hlt
   cases f with
   | false =>
     have hdp:dropP L ds=(L,1):=by unfold dropP;rw [HF.out,if_neg (by decide)]
     rw [hdp] at HDR
     clear hdp
     go_wp2_with (fail)
     refine HDR.out.mono ?_
     rintro e w8 ⟨rfl,h8,st8⟩
     have H8:=hid (show LgIn w.heap.size w w8 d l out L from h8)
     have HO8:=hid (HO7.out.stays st8)
     clear h8 st8 HDR
     obtain ⟨A9,n9,c9,h9⟩:=H8.out
     have hn9:n9=n:=by rw [←h9.ints.len,HNL.out.1]
     subst hn9
     have HSG:=hid (Y3 h9 HR.out.r)
     clear h9
     go_wp2_with (fail)
     refine HSG.out.mono ?_
     rintro e w9 ⟨Aa,ca,rfl,hoa,hga⟩
     have HSA:=hid (Ze7 Aa n9 ca A5 n9 c5 L.man.segs L.man.segs w9 (Ints.owned hoa).row (Ints.owned (HO8.out.grow hga).own).row (by have:=HNL.out;omega))
     rw [decide_eq_true (p:=L.man.segs=L.man.segs) rfl] at HSA
     have HGA:=hid (show Grows w8 w9 from hga)
     clear hoa hga HSG
     go_wp2_with (fail)
     refine HSA.out.mono ?_
     rintro e wb ⟨rfl,hgb⟩
     have HGB:=hid (Grows.trans HGA.out hgb)
     clear hgb HSA
     go_wp2_with (fail)
     go_ret
     exact ⟨rfl,(H8.out.grow HGB.out).low⟩
   | true =>
     obtain ⟨rs,hlw⟩:=HR.out.lw
     obtain ⟨hd0,hdv⟩:=hlw.drop (by have:=HK.out;omega) HF.out
     have hdm:=((Zbg L ds).2.2.1 hd0).1
     have HDR9:=hid (show LgR (dropP L ds).1 from HR.out.r.drop ds)
     have HDO:=hid (show DkOk 1000000 (dropP L ds).1.dk from ((HR.out.ok.drop HR.out.r ds).ok).mono (by have:=HK.out;omega))
     obtain ⟨⟨L9,v9⟩,hL9⟩:∃ y,dropP L ds=y:=⟨_,rfl⟩
     rw [hL9] at HDR hd0 hdv hdm HDR9 HDO
     dsimp only at hd0 hdv hdm
     subst hd0
     have HDV:=hid hdv
     have hsg9:L9.man.segs=Yh ds L.man.segs:=by rw [hdm]
     have HSG9:=hid hsg9
     clear hlw hdv hdm hL9 hsg9
     go_wp2_with (fail)
     refine HDR.out.mono ?_
     rintro e w8 ⟨rfl,h8,st8⟩
     have H8:=hid (show LgIn w.heap.size w w8 d l out L9 from h8)
     have HO8:=hid (HO7.out.stays st8)
     clear h8 st8 HDR
     obtain ⟨A9,n9,c9,h9⟩:=H8.out
     have HN9:=hid (show n9≤n by
      rw [←h9.ints.len,HSG9.out,←HNL.out.1]
      exact List.length_filter_le _ _)
     have HSG:=hid (Y3 h9 HDR9.out)
     rw [HSG9.out] at HSG
     clear h9
     go_wp2_with (fail)
     refine HSG.out.mono ?_
     rintro e w9 ⟨Aa,ca,rfl,hoa,hga⟩
     have HO9:=hid (HO8.out.grow hga)
     have H9:=hid (H8.out.grow hga)
     have HOA:=hid hoa
     clear hoa hga HSG
     go_wp2_with (fail)
     go_loopw [19] (fun vi wr=>∃ (k:Nat),k≤n∧vi=.int .i64 (k:Nat)∧Hid (Grows w9 wr)) (fun i _=>n - (intOf i).toNat)
     case atStart=>exact ⟨0,Nat.zero_le _,rfl,hid (Grows.refl _)⟩
     case round =>
      obtain ⟨k,hk,rfl,HGY⟩:=hrel
      by_cases hlt:k < n
      ·have hlt':(k:Int) < (n:Int):=by omega
       have hj0:(0:Int)≤(k:Int):=by omega
       have e5:IntKind.i64.wrap ((k:Int)+1)=(k:Int)+1:=IntWalk.i64_in _ ⟨by omega,by have:=HNL.out;omega⟩
       have HLT:=hid hlt
       obtain ⟨ad,y,rfl,hc1,hx1,_⟩:=(Ints.owned (HO9.out.grow HGY.out).own).get hlt
       have hyin:y∈L.man.segs:=List.mem_of_getElem? hx1
       have HCC:=hid (show ∀ w',Grows wr w'→w'.cell? (ad.add k)=some (.int .i64 y) from fun w' hC=>by
        rw [hC.cell (World.block_lt_of_cell? _ _ hc1)]
        exact hc1)
       obtain ⟨hv1,hv2⟩:=HDV.out y hyin
       obtain ⟨g,hg⟩:∃ b,decide (y∈ds)=b:=⟨_,rfl⟩
       rw [hg] at hv1
       obtain ⟨z1,hz1⟩:∃ z,(L9.dk.size (nmS y)).1=z:=⟨_,rfl⟩
       obtain ⟨⟨z2,b2⟩,hz2⟩:∃ z,L9.dk.size (nmH y)=z:=⟨_,rfl⟩
       rw [hz2] at hv2
       have HS1:=hid (show L9.dk.size (nmS y)=(z1,!g) from Prod.ext hz1 hv1)
       have HS2:=hid hz2
       have HKP:=hid (show decide (y∈Yh ds L.man.segs)=!g by
        rw [←hg]
        unfold Yh
        by_cases e:y∈ds
        ·rw [decide_eq_true e,decide_eq_false fun h=>?_]
         ·rfl
         ·have:=(List.mem_filter.1 h).2
          simp [e] at this
        ·rw [decide_eq_false e,decide_eq_true (List.mem_filter.2 ⟨hyin,by simp [e]⟩)]
         rfl)
       have HB2:=hid (show g=true→b2=false from fun e=>hv2 (of_decide_eq_true (hg.trans e)))
       have HGD:=hid hg
       clear hv1 hv2 hg hz1 hz2 hx1 hyin
       go_wp2_with (fail)
       refine (Zaa 1 y wr).mono ?_
       rintro e wa ⟨rfl,hga⟩
       have HGA:=hid (Grows.trans HGY.out hga)
       have HCA:=hid (fun w' (hC:Grows wa w')=>HCC.out w' (Grows.trans hga hC))
       clear hga hc1
       have HZ1:=hid (Zep (nmS y) (H9.out.grow HGA.out).dkIn (Zlu y) HS1.out)
       unfold nmS at HZ1
       go_wp2_with (fail)
       refine HZ1.out.mono ?_
       rintro e wb ⟨rfl,rfl⟩
       have hc2:=HCA.out wa (Grows.refl _)
       go_wp2_with (fail)
       refine (Zaa 2 y wa).mono ?_
       rintro e wb ⟨rfl,hgb⟩
       have HGB:=hid (Grows.trans HGA.out hgb)
       have HCB:=hid (fun w' (hC:Grows wb w')=>HCA.out w' (Grows.trans hgb hC))
       clear hgb hc2
       have HZ2:=hid (Zep (nmH y) (H9.out.grow HGB.out).dkIn (by have:=Zll y;omega) HS2.out)
       unfold nmH at HZ2
       go_wp2_with (fail)
       refine HZ2.out.mono ?_
       rintro e wc ⟨rfl,rfl⟩
       have hc3:=HCB.out wb (Grows.refl _)
       have HH1:=hid (Zbe A1 i c1 ds y wb ((HDS.out.grow (H9.out.grow HGB.out).low)).row (by have:=HK.out;omega))
       rw [HGD.out] at HH1
       go_wp2_with (fail)
       refine HH1.out.mono ?_
       rintro e wd ⟨rfl,hgd⟩
       have HGC:=hid (Grows.trans HGB.out hgd)
       have hc4:=HCB.out wd hgd
       clear hgd hc3
       have HH2:=hid (Zbe Aa n9 ca (Yh ds L.man.segs) y wd ((Ints.owned HOA.out).grow HGC.out).row (by have:=HN9.out;have:=HNL.out;omega))
       rw [HKP.out] at HH2
       cases g with
       | true =>
         have hb2:=HB2.out rfl
         subst hb2
         go_wp2_with (fail)
         refine HH2.out.mono ?_
         rintro e we ⟨rfl,hge⟩
         have HGE:=hid (Grows.trans HGC.out hge)
         clear hge hc4
         go_wp2_with (fail)
         exact ⟨⟨k+1,HLT.out,rfl,HGE⟩,Zn HLT.out⟩
       | false =>
         go_wp2_with (fail)
         refine HH2.out.mono ?_
         rintro e we ⟨rfl,hge⟩
         have HGE:=hid (Grows.trans HGC.out hge)
         clear hge hc4
         go_wp2_with (fail)
         exact ⟨⟨k+1,HLT.out,rfl,HGE⟩,Zn HLT.out⟩
      obtain rfl:k=n:=by omega
      have hlt':¬ ((k:Int) < (k:Int)):=by omega
      have hle:(n9:Int)≤(k:Int):=by have:=HN9.out;omega
      go_wp2_with (fail)
      go_ret
      exact ⟨rfl,(H9.out.grow HGY.out).low⟩

theorem logDrops_lifted (os:Os) (started:os.Started) (H:Type) (enc:TypeId×Value→H) :
 ReturnsInHanded {} Tryz.checked os 6 .any (Rows.logDropsSpec.pre6 enc Tryz.prog Tryz.f6 Rows.logDropsRow.domain false) (Rows.logDropsSpec.post enc Tryz.prog Tryz.f6 false true false false):=by
 refine Zfn (C:=Tryz.checked) H enc own started (by kernel_rfl) Tryz.func6
  (ChangeSpec.witness6 (enc:=enc) (C:=Tryz.checked) false ⟨#[],#[.int .u16 0,.slice none 0 0,.slice none 0 0],[]⟩ 16 (by kernel_rfl) (by kernel_rfl) (by kernel_rfl) (by kernel_rfl))
  laidOut (Zbj (by kernel_rfl)) rfl Tryz.underlying4 rfl (fun ds hd=>?_) (fun W base args ds p hval hA hsz=>?_)
 ·match ds,hd with
  | [d1,d2,d3],_=>rfl
 ·rw [Tryz.params6] at hA hval hsz
  obtain ⟨v0,vs0,d0,ds0,p0,q0,hargs,rfl,rfl,h0,r0⟩:=trodAll_cons hA
  obtain ⟨v1,vs1,d1,ds1,p1,q1,rfl,rfl,rfl,h1,r1⟩:=trodAll_cons r0
  obtain ⟨v2,vs2,d2,ds2,p2,q2,rfl,rfl,rfl,h2,r2⟩:=trodAll_cons r1
  obtain ⟨rfl,rfl,rfl⟩:=trodAll_nil r2
  obtain rfl:args=#[v0,v1,v2]:=by cases args;simp_all
  obtain ⟨a0,rfl,_,_,w0⟩:=open_int Tryz.underlying58 (hval 0 58 v0 rfl rfl) h0
  have b0:=bounds_u16 w0
  obtain ⟨A1,n1,c1,xs1,rfl,hx1⟩:=Zhl (hval 1 72 v1 rfl rfl) h1
  obtain ⟨A2,n2,c2,xs2,rfl,hx2⟩:=Zqr Tryz.underlying40 Tryz.underlying3 (by kernel_rfl) (hval 2 40 v2 rfl rfl) h2
  exact Zlo W a0 (by omega) A1 n1 c1 xs1 hx1 A2 n2 c2 xs2 hx2

theorem logDrops_re:(Rows.logDropsRow.recurses==Tryz.pinned.checked.prog.recurses 6)=true:=by kernel_rfl
theorem logDrops_un:(Rows.logDropsRow.unfollowed==Tryz.pinned.checked.prog.unfollowed 6)=true:=by kernel_rfl
theorem logDrops_in:(Rows.logDropsRow.inPlace==Tryz.pinned.checked.prog.inPlace 6)=true:=by kernel_rfl
theorem logDrops_na:(Rows.logDropsRow.named==Tryz.pinned.checked.prog.varsNamed 6)=true:=by kernel_rfl
theorem logDrops_closed:joinedFacts Tryz.pinned.checked.prog 6 Tryz.f6 Rows.logDropsSpec Rows.logDropsRow=true:=by
 unfold joinedFacts
 rw [logDrops_re,logDrops_un,logDrops_in,logDrops_na]
 kernel_rfl
theorem logDrops_over:Rows.logDropsRow.holds Tryz.pinned (OpenSpec.ofChange Rows.logDropsSpec) :=
 OpenClaim.holds_of_wide 6 Tryz.f6 rfl rfl rfl rfl rfl rfl rfl ⟨rfl,rfl,rfl,rfl,rfl⟩ rfl rfl rfl rfl rfl (by kernel_rfl) Tryz.func6 logDrops_closed
  (of_decide_eq_true (by kernel_rfl)) (by unfold Func.isWrapper;first | (rw [if_pos (by decide +kernel)];kernel_rfl) | (rw [if_neg (by decide +kernel)];exact ⟨rfl,rfl⟩))
  (fun os started H enc _=>logDrops_lifted os started H enc)
theorem logDrops_holds:Rows.LogDropsSaid:=logDrops_over
end Go.Proofs.YtkelafkbmnjpeaaGreat
