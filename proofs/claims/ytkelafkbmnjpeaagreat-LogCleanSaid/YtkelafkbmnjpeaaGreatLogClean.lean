import Derived.Test.YtkelafkbmnjpeaaGreatLgHead
import Derived.Test.YtkelafkbmnjpeaaGreatMG41
import Derived.Test.YtkelafkbmnjpeaaGreatMG40
import Derived.Test.YtkelafkbmnjpeaaGreatMG42
import Derived.Test.YtkelafkbmnjpeaaGreatMG37
import Derived.Test.YtkelafkbmnjpeaaGreatNmRefParse
import Derived.ProofKit
import Derived.ChangeOld
set_option maxHeartbeats 16000000
set_option maxRecDepth 100000
namespace Go.Proofs.YtkelafkbmnjpeaaGreat
open Go.Lib (hid)
open Go.ChangeShapes Go.WideShapes Go.ChangeAt Go.RowKit
attribute [local irreducible] wpF
theorem box15 {w:World} {g:Nat} {t:TypeId} {v0 v1 v2 v3 v4 v5 v6 v7 v8 v9 v10 v11 v12:Value} (h:Whole w g t #[v0,v1,v2,v3,v4,v5,v6,v7,v8,v9,v10,v11,v12]) :
 w.cell? { block:=g,off:=0 }=some v0∧w.cell? { block:=g,off:=1 }=some v1∧w.cell? { block:=g,off:=2 }=some v2∧w.cell? { block:=g,off:=3 }=some v3∧w.cell? { block:=g,off:=4 }=some v4∧w.cell? { block:=g,off:=5 }=some v5∧w.cell? { block:=g,off:=6 }=some v6∧w.cell? { block:=g,off:=7 }=some v7∧w.cell? { block:=g,off:=8 }=some v8∧w.cell? { block:=g,off:=9 }=some v9∧w.cell? { block:=g,off:=10 }=some v10∧w.cell? { block:=g,off:=11 }=some v11∧w.cell? { block:=g,off:=12 }=some v12 :=
 ⟨h.cell 0,h.cell 1,h.cell 2,h.cell 3,h.cell 4,h.cell 5,h.cell 6,h.cell 7,h.cell 8,h.cell 9,h.cell 10,h.cell 11,h.cell 12⟩
theorem Zuy {w w':World} {a:Addr} {o:O15} {p:P15} (hb:a.block < w.heap.size) (hc:∀ k,k < 13→w.cell? (a.add k)=(o15V o p)[k]?) (hg:Grows w w') :
 w'.cell? a=some (.int .i64 o.what)∧w'.cell? { block:=a.block,off:=a.off+1 }=some (.int .i64 o.x.kind)∧w'.cell? { block:=a.block,off:=a.off+2 }=some (.string ⟨o.x.key.toArray⟩)∧w'.cell? { block:=a.block,off:=a.off+3 }=some (.int .i64 o.x.id)∧w'.cell? { block:=a.block,off:=a.off+4 }=some (.int .i64 o.x.no)∧w'.cell? { block:=a.block,off:=a.off+5 }=some (.int .i64 o.x.size)∧w'.cell? { block:=a.block,off:=a.off+6 }=some (.slice p.LA p.ln p.lc)∧w'.cell? { block:=a.block,off:=a.off+7 }=some (.slice p.BA p.bn p.bc)∧w'.cell? { block:=a.block,off:=a.off+8 }=some (.int .i64 o.n)∧w'.cell? { block:=a.block,off:=a.off+9 }=some (.int .i64 o.at')∧w'.cell? { block:=a.block,off:=a.off+10 }=some (.slice p.SA p.sn p.sc)∧w'.cell? { block:=a.block,off:=a.off+11 }=some (.slice p.IA p.im p.ic)∧w'.cell? { block:=a.block,off:=a.off+12 }=some (.int .u32 o.bits):=by
 have key:∀ k,k < 13→w'.cell? (a.add k)=(o15V o p)[k]?:=fun k hk=>(hg.cell (by rw [Zk];exact hb)).trans (hc k hk)
 have h0:=key 0 (by omega)
 rw [show a.add 0=a by unfold Addr.add;simp] at h0
 have h1:=key 1 (by omega)
 have h2:=key 2 (by omega)
 have h3:=key 3 (by omega)
 have h4:=key 4 (by omega)
 have h5:=key 5 (by omega)
 have h6:=key 6 (by omega)
 have h7:=key 7 (by omega)
 have h8:=key 8 (by omega)
 have h9:=key 9 (by omega)
 have h10:=key 10 (by omega)
 have h11:=key 11 (by omega)
 have h12:=key 12 (by omega)
 rw [Addr.add_succ'] at h1 h2 h3 h4 h5 h6 h7 h8 h9 h10 h11 h12
 exact ⟨h0,h1,h2,h3,h4,h5,h6,h7,h8,h9,h10,h11,h12⟩
theorem len15 {os:List O15} {o:O15} (h:o∈os):Zen o≤Zb7 os:=by
 obtain ⟨i,hi⟩:=List.mem_iff_getElem?.1 h
 have h1:=Zou hi
 have h2:=Zl1 os (i+1)
 omega
theorem Zi3 (w:World) (u:Int) (hu:0≤u∧u≤65535) (A0:Option Addr) (n0 c0:Nat) (os:List O15) (hx:Ops15 w A0 n0 c0 os) :
 Calls Tryz.prog 5 #[.int .u16 u,.slice A0 n0 c0] w fun e w'=>e=.returned (.bool true)∧Below w.heap.size w w':=by
 have HX:=hid hx
 clear hx
 have hm1:IntKind.i64.wrap u=u:=IntWalk.i64_in _ (by omega)
 obtain ⟨lim,hlim⟩:∃ x,64+u=x:=⟨_,rfl⟩
 have hm2:IntKind.i64.wrap (64+u)=lim:=by rw [hlim];exact IntWalk.i64_in _ (by omega)
 have HLIM:=hid (show 64≤lim∧lim≤65599 by omega)
 clear hlim hu
 go_enter Tryz.func5,Tryz.ntmps5
 go_wp2_with (fail)
 refine (Zm4 w).mono ?_
 rintro e w0 ⟨rfl,hb0⟩
 have HB0:=hid (show Grows w w0 from hb0)
 clear hb0
 go_wp2_with (fail)
 refine (Zo7 w0 4194304).mono ?_
 rintro e w1 ⟨d,rfl,hn⟩
 have HD1:=hid (show DkIn w.heap.size w w1 d (fun _=>False) (Dk.new 4194304) from DkIn.new hn HB0.out.size HB0.out (fun k h=>h.elim))
 clear hn
 go_wp2_with (fail)
 refine (Zl2 A0 n0 c0 os w1 (HX.out.grow HD1.out.low)).mono ?_
 rintro e w1b (⟨rfl,hg⟩ | ⟨rfl,h100,hall,hg⟩)
 ·have hlow:=(HD1.out.grow hg).low
  go_wp2_with (fail)
  go_ret
  exact ⟨rfl,hlow⟩
 have HGR:=hid hall
 have HD2:=hid (HD1.out.grow hg)
 clear hall hg HD1
 obtain ⟨w1,rfl⟩:∃ x,x=w1b:=⟨_,rfl⟩
 have HD1:=HD2
 clear HD2
 have hop:=Zdq lim w1 HD1.out (LOk.new (S:=13) 4194304).ok (by omega)
 rw [Zuh (by have:=HLIM.out;omega)] at hop
 have HOP:=hid hop
 clear hop
 go_wp2_with (fail)
 refine HOP.out.mono ?_
 rintro e w2 ⟨hg2,(⟨h0,_⟩ | ⟨L,l,h0,_,rfl,hl⟩)⟩
 ·cases h0
 injection h0 with h0
 subst h0
 have HL2:=hid (show LgIn w.heap.size w w2 d l (fun _=>False) (LG0 lim) from hl)
 clear hg2 hl HOP
 go_wp2_with (fail)
 go_loopw [9] (fun vi wr=>∃ (j:Nat) (L:Lg) (rs:Int→List Rc) (out:Nat→Prop),j≤n0∧vi=.int .i64 (j:Nat)∧Hid (LgIn w.heap.size w wr d l out L)∧Hid (TL (700*j) (3*j) j L rs)∧Hid (L.limit=lim)∧Hid (OL L.dk)) (fun i _=>n0 - (intOf i).toNat)
 case atStart=>exact ⟨0,_,_,fun _=>False,Nat.zero_le _,rfl,HL2,hid (TL.new HLIM.out),hid rfl,hid (OL.new _)⟩
 case round =>
  obtain ⟨j,L,rs,out,hj,rfl,HI,HT,HLM,HOL⟩:=hrel
  clear HL2 HD1
  by_cases hlt:j < n0
  ·skip
   obtain ⟨wa,rfl⟩:∃ x,x=wr:=⟨_,rfl⟩
   have hlt':(j:Int) < (n0:Int):=by omega
   have hj0:(0:Int)≤(j:Int):=by omega
   have e5:IntKind.i64.wrap ((j:Int)+1)=(j:Int)+1:=IntWalk.i64_in _ ⟨by omega,by omega⟩
   have HK:=hid (show j≤100∧n0≤100 by omega)
   obtain ⟨ad,o,p,rfl,hblk,hoi,hop,hcs⟩:=HX.out.spot j hlt
   have hqs:=Zuy (by rw [Zk];exact hblk) hcs HI.out.low
   have HLT:=hid hlt
   have hin:=hop.x
   have hsg:=hop.segs
   have hes:=hop.eachS
   have hby:=hop.bytes
   have heb:=hop.each
   have hnb:=hop.n
   have hab:=hop.at'
   have hbb:=hop.bits
   obtain ⟨LA,ln,lc,BA,bn,bc,SA,sn,sc,IA,im,ic⟩:=p
   dsimp only at hqs hin hsg hby
   have HIN:=hid (show RcIn w LA ln lc BA bn bc o.x from hin)
   have HOS:=hid (show o∈os from List.mem_of_getElem? hoi)
   obtain ⟨s,hs⟩:∃ s:ByteArray,(⟨o.x.key.toArray⟩:ByteArray)=s:=⟨_,rfl⟩
   obtain ⟨k0,hk0⟩:∃ k,o.what=k:=⟨_,rfl⟩
   obtain ⟨kk,hkk⟩:∃ k,o.x.kind=k:=⟨_,rfl⟩
   obtain ⟨i0,hi0⟩:∃ k,o.x.id=k:=⟨_,rfl⟩
   obtain ⟨n9,hn9⟩:∃ k,o.x.no=k:=⟨_,rfl⟩
   obtain ⟨z0,hz0⟩:∃ k,o.x.size=k:=⟨_,rfl⟩
   obtain ⟨nn,hnn⟩:∃ k,o.n=k:=⟨_,rfl⟩
   obtain ⟨aa,haa⟩:∃ k,o.at'=k:=⟨_,rfl⟩
   obtain ⟨bb,hbe⟩:∃ k,o.bits=k:=⟨_,rfl⟩
   rw [hs,hk0,hkk,hi0,hn9,hz0,hnn,haa,hbe] at hqs
   rw [hnn] at hnb
   rw [haa] at hab
   rw [hbe] at hbb
   obtain ⟨ds,hds⟩:∃ k,o.segs=k:=⟨_,rfl⟩
   rw [hds] at hsg hes
   have HNB:=hid (And.intro hnb (And.intro hab hbb))
   have HSG:=hid (And.intro hsg (And.intro hes hds))
   have HEQ:=hid (And.intro hkk (And.intro hs (And.intro hi0 (And.intro hn9 hz0))))
   have HBY:=hid (And.intro hby heb)
   obtain ⟨W1,hW1⟩:∃ W,wa.alloc (.cells #[.int .i64 k0,.int .i64 kk,.string s,.int .i64 i0,.int .i64 n9,.int .i64 z0,.slice LA ln lc,.slice BA bn bc,.int .i64 nn,.int .i64 aa,.slice SA sn sc,.slice IA im ic,.int .u32 bb] 43)=W:=⟨_,rfl⟩
   have hga:Grows wa W1:=by rw [←hW1];exact Za _ _
   have HBX:=hid (show Whole W1 wa.heap.size 43 #[.int .i64 k0,.int .i64 kk,.string s,.int .i64 i0,.int .i64 n9,.int .i64 z0,.slice LA ln lc,.slice BA bn bc,.int .i64 nn,.int .i64 aa,.slice SA sn sc,.slice IA im ic,.int .u32 bb] by rw [←hW1];exact Whole.made _ _ _)
   have hsz1:W1.heap.size=wa.heap.size+1:=by rw [←hW1,World.size_alloc]
   obtain ⟨q0,q1,q2,q3,q4,q5,q6,q7,q8,q9,q10,q11,q12⟩:=hqs
   have H1:=hid (HI.out.more hga)
   obtain ⟨out2,hout2⟩:∃ o:Nat→Prop,(fun k=>out k∨(wa.heap.size≤k∧k < W1.heap.size))=o:=⟨_,rfl⟩
   rw [hout2] at H1
   have HW1:=hid hW1
   clear hblk hoi hop hcs hin hsg hes hby heb hnb hab hbb hs hk0 hkk hi0 hn9 hz0 hnn haa hbe hds hga hsz1 hout2
   obtain ⟨b0,b1,b2,b3,b4,b5,b6,b7,b8,b9,b10,b11,b12⟩:=box15 HBX.out
   obtain ⟨A1,n1,c1,hat⟩:=H1.out
   have HAT:=hid hat
   clear hat hW1
   by_cases h6:k0=6
   ·subst h6
    as_aux_lemma =>
     obtain ⟨rs2,t1,t2,t3,_,_⟩:=HT.out.roll
     have HC:=hid (Zi5 W1 HAT.out HT.out.r HT.out.ok (by have:=HK.out;omega) (by omega))
     have HTN:=hid (t1.mono (T':=700*(j+1)) (N':=3*(j+1)) (Z':=j+1) (by have:=HK.out;omega) (by omega) (by omega))
     have HLN:=hid (t2.trans HLM.out)
     clear t1 t2 t3
     have HON:=hid (HOL.out.roll HT.out.r)
     go_wp2_with (first | rw [HW1.out] | fail)
     refine HC.out.mono ?_
     rintro e w5 ⟨rfl,h5,st5⟩
     have H5:=hid (show LgIn w.heap.size w w5 d l out2 ((rollP L).1) from h5)
     clear h5 st5 HC
     go_wp2_with (fail)
     exact ⟨⟨j+1,(rollP L).1,_,out2,HLT.out,rfl,H5,HTN,HLN,HON⟩,Yg HLT.out⟩
   have g6:(k0==6)=false:=by rw [beq_eq_false_iff_ne];exact h6
   by_cases h7:k0=7
   ·subst h7
    as_aux_lemma =>
     have hsl:ds.length≤20000:=by
      have h1:=len15 HOS.out
      have h2:=HGR.out
      have h3:=HSG.out.1.len
      unfold Zen at h1
      rw [HSG.out.2.2] at h1
      omega
     have hdr:=Zgc SA sn sc ds W1 ((HSG.out.1.grow HI.out.low).grow (by rw [←HW1.out];exact Za _ _)) (by have h3:=HSG.out.1.len;omega) (fun ad e hne=>.inl (HSG.out.1.blk ad e hne)) HAT.out HT.out.r HT.out.ok (by have:=HK.out;omega) (by omega)
     clear hsl
     have HC:=hid (hdr)
     clear hdr
     have HTN:=hid ((HT.out.drop ds).mono (T':=700*(j+1)) (N':=3*(j+1)) (Z':=j+1) (by have:=HK.out;omega) (by omega) (by omega))
     have HLN:=hid ((Zcq L ds).2.1.trans HLM.out)
     have HON:=hid (HOL.out.drop ds)
     go_wp2_with (first | rw [HW1.out] | fail)
     refine HC.out.mono ?_
     rintro e w5 ⟨rfl,h5,st5⟩
     have H5:=hid (show LgIn w.heap.size w w5 d l out2 ((dropP L ds).1) from h5)
     clear h5 st5 HC
     go_wp2_with (fail)
     exact ⟨⟨j+1,(dropP L ds).1,_,out2,HLT.out,rfl,H5,HTN,HLN,HON⟩,Yg HLT.out⟩
   have g7:(k0==7)=false:=by rw [beq_eq_false_iff_ne];exact h7
   by_cases h10:k0=10
   ·subst h10
    as_aux_lemma =>
     have HC:=hid (HAT.out.dop (f:=15) (args:=#[.pointer (some ⟨d,0,none⟩),.int .i64 nn]) (v:=.returned (.tuple #[])) (m':=L.dk.setFail nn) fun out' ho hd=>Zu9 nn hd)
     have HTN:=hid ((HT.out.fail (x:=nn) (by have:=HNB.out.1;omega)).mono (T':=700*(j+1)) (N':=3*(j+1)) (Z':=j+1) (by have:=HK.out;omega) (by omega) (by omega))
     have HLN:=hid (HLM.out)
     have HON:=hid (HOL.out.fail nn)
     go_wp2_with (first | rw [HW1.out] | fail)
     refine HC.out.mono ?_
     rintro e w5 ⟨rfl,h5,st5⟩
     have H5:=hid (show LgIn w.heap.size w w5 d l out2 (L.on (L.dk.setFail nn)) from h5.in)
     clear h5 st5 HC
     go_wp2_with (fail)
     exact ⟨⟨j+1,L.on (L.dk.setFail nn),_,out2,HLT.out,rfl,H5,HTN,HLN,HON⟩,Yg HLT.out⟩
   have g10:(k0==10)=false:=by rw [beq_eq_false_iff_ne];exact h10
   by_cases h0:k0=0
   ·subst h0
    as_aux_lemma =>
     obtain ⟨rs2,t1,t2,t3,t4,t5⟩:=HT.out.ladd o.x
     have hadd:=Zb8 o.x LA ln lc BA bn bc W1 (fun w' hb=>HIN.out.grow hb) HAT.out HT.out.r HT.out.ok (by have:=HK.out;omega) (by omega) (fun _=>by omega)
     rw [HEQ.out.1,HEQ.out.2.1,HEQ.out.2.2.1,HEQ.out.2.2.2.1,HEQ.out.2.2.2.2] at hadd
     have HTA:=hid (t1.mono (T':=700*(j+1)) (N':=3*(j+1)) (Z':=j+1) (by omega) (by omega) (by omega))
     have HLA:=hid (t4.trans HLM.out)
     have HCA:=hid hadd
     clear hadd t1 t2 t3 t4 t5
     have HC:=hid (HCA.out)
     have HTN:=hid (HTA.out)
     have HLN:=hid (HLA.out)
     have HON:=hid (HOL.out.ladd HT.out.r o.x)
     go_wp2_with (first | rw [HW1.out] | fail)
     refine HC.out.mono ?_
     rintro e w5 ⟨rfl,h5,st5⟩
     have H5:=hid (show LgIn w.heap.size w w5 d l out2 ((laddP L o.x).1) from h5)
     clear h5 st5 HC
     go_wp2_with (fail)
     exact ⟨⟨j+1,(laddP L o.x).1,_,out2,HLT.out,rfl,H5,HTN,HLN,HON⟩,Yg HLT.out⟩
   have g0:(k0==0)=false:=by rw [beq_eq_false_iff_ne];exact h0
   by_cases h1:k0=1
   ·subst h1
    as_aux_lemma =>
     obtain ⟨rs2,t1,t2,t3,t4,t5⟩:=HT.out.ladd o.x
     have hadd:=Zb8 o.x LA ln lc BA bn bc W1 (fun w' hb=>HIN.out.grow hb) HAT.out HT.out.r HT.out.ok (by have:=HK.out;omega) (by omega) (fun _=>by omega)
     rw [HEQ.out.1,HEQ.out.2.1,HEQ.out.2.2.1,HEQ.out.2.2.2.1,HEQ.out.2.2.2.2] at hadd
     have HTA:=hid (t1.mono (T':=700*(j+1)) (N':=3*(j+1)) (Z':=j+1) (by omega) (by omega) (by omega))
     have HLA:=hid (t4.trans HLM.out)
     have HCA:=hid hadd
     clear hadd t1 t2 t3 t4 t5
     have HC:=hid (HCA.out)
     have HTN:=hid (HTA.out)
     have HLN:=hid (HLA.out)
     have HON:=hid (HOL.out.ladd HT.out.r o.x)
     go_wp2_with (first | rw [HW1.out] | fail)
     refine HC.out.mono ?_
     rintro e w5 ⟨rfl,h5,st5⟩
     have H5:=hid (show LgIn w.heap.size w w5 d l out2 ((laddP L o.x).1) from h5)
     clear h5 st5 HC
     go_wp2_with (fail)
     exact ⟨⟨j+1,(laddP L o.x).1,_,out2,HLT.out,rfl,H5,HTN,HLN,HON⟩,Yg HLT.out⟩
   have g1:(k0==1)=false:=by rw [beq_eq_false_iff_ne];exact h1
   by_cases h2:k0=2
   ·subst h2
    as_aux_lemma =>
     obtain ⟨rs2,t1,t2,t3,t4,t5⟩:=HT.out.ladd o.x
     have hadd:=Zb8 o.x LA ln lc BA bn bc W1 (fun w' hb=>HIN.out.grow hb) HAT.out HT.out.r HT.out.ok (by have:=HK.out;omega) (by omega) (fun _=>by omega)
     rw [HEQ.out.1,HEQ.out.2.1,HEQ.out.2.2.1,HEQ.out.2.2.2.1,HEQ.out.2.2.2.2] at hadd
     have HTA:=hid (t1.mono (T':=700*(j+1)) (N':=3*(j+1)) (Z':=j+1) (by omega) (by omega) (by omega))
     have HLA:=hid (t4.trans HLM.out)
     have HCA:=hid hadd
     clear hadd t1 t2 t3 t4 t5
     have HC:=hid (HCA.out)
     have HTN:=hid (HTA.out)
     have HLN:=hid (HLA.out)
     have HON:=hid (HOL.out.ladd HT.out.r o.x)
     go_wp2_with (first | rw [HW1.out] | fail)
     refine HC.out.mono ?_
     rintro e w5 ⟨rfl,h5,st5⟩
     have H5:=hid (show LgIn w.heap.size w w5 d l out2 ((laddP L o.x).1) from h5)
     clear h5 st5 HC
     go_wp2_with (fail)
     exact ⟨⟨j+1,(laddP L o.x).1,_,out2,HLT.out,rfl,H5,HTN,HLN,HON⟩,Yg HLT.out⟩
   have g2:(k0==2)=false:=by rw [beq_eq_false_iff_ne];exact h2
   by_cases h3:k0=3
   ·subst h3
    as_aux_lemma =>
     obtain ⟨rs2,t1,t2,t3,t4,t5⟩:=HT.out.ladd o.x
     have hadd:=Zb8 o.x LA ln lc BA bn bc W1 (fun w' hb=>HIN.out.grow hb) HAT.out HT.out.r HT.out.ok (by have:=HK.out;omega) (by omega) (fun _=>by omega)
     rw [HEQ.out.1,HEQ.out.2.1,HEQ.out.2.2.1,HEQ.out.2.2.2.1,HEQ.out.2.2.2.2] at hadd
     have HTA:=hid (t1.mono (T':=700*(j+1)) (N':=3*(j+1)) (Z':=j+1) (by omega) (by omega) (by omega))
     have HLA:=hid (t4.trans HLM.out)
     have HCA:=hid hadd
     clear hadd t1 t2 t3 t4 t5
     have HC:=hid (HCA.out)
     have HTN:=hid (HTA.out)
     have HLN:=hid (HLA.out)
     have HON:=hid (HOL.out.ladd HT.out.r o.x)
     go_wp2_with (first | rw [HW1.out] | fail)
     refine HC.out.mono ?_
     rintro e w5 ⟨rfl,h5,st5⟩
     have H5:=hid (show LgIn w.heap.size w w5 d l out2 ((laddP L o.x).1) from h5)
     clear h5 st5 HC
     go_wp2_with (fail)
     exact ⟨⟨j+1,(laddP L o.x).1,_,out2,HLT.out,rfl,H5,HTN,HLN,HON⟩,Yg HLT.out⟩
   have g3:(k0==3)=false:=by rw [beq_eq_false_iff_ne];exact h3
   clear h6 h7 h10 h0 h1 h2 h3
   go_wp2_with (first | rw [HW1.out] | fail)
   exact ⟨⟨j+1,L,rs,out2,HLT.out,rfl,H1,hid (HT.out.mono (by have:=HK.out;omega) (by omega) (by omega)),HLM,HOL⟩,Yg HLT.out⟩
  obtain rfl:j=n0:=by omega
  have hlt':¬ ((j:Int) < (j:Int)):=by omega
  have HK:=hid (show j≤100 by omega)
  obtain ⟨wb,rfl⟩:∃ x,x=wr:=⟨_,rfl⟩
  obtain ⟨W1,hW1⟩:∃ W,wb.alloc (.cells #[.int .i64 1048576] 3)=W:=⟨_,rfl⟩
  have hga:Grows wb W1:=by rw [←hW1];exact Za _ _
  have hit:Ints W1 (some ⟨wb.heap.size,0,none⟩) 1 1 [1048576]:=by rw [←hW1];exact Ints.lit (Whole.made _ _ _) [1048576] rfl rfl
  have hd0:=HI.out.dkIn.more hga
  obtain ⟨out2,hout2⟩:∃ o:Nat→Prop,(fun k=>out k∨(wb.heap.size≤k∧k < W1.heap.size))=o:=⟨_,rfl⟩
  have hlit:out2 wb.heap.size:=by rw [←hout2];exact .inr ⟨Nat.le_refl _,by rw [←hW1,World.size_alloc];omega⟩
  rw [hout2] at hd0
  have hbt:=Zva (K:=300000) 1048576 hd0 (HT.out.ok.ok.mono (by have:=HK.out;omega)) (by omega) hit (by intro x hx;rw [List.mem_singleton.1 hx];omega) (fun ad e hne=>.inr (by injection e with e;rw [←e];exact hlit))
  obtain ⟨q1,q2,q3⟩:=HOL.out.boot HT.out.ok (by have:=HK.out;omega) (by omega)
  have q4:LOk 70000 65599 (L.dk.boot 1048576 [1048576]):=(HT.out.ok.boot _ _).mono (by have:=HK.out;omega) (Nat.le_refl _)
  obtain ⟨m2,hm2⟩:∃ x,L.dk.boot 1048576 [1048576]=x:=⟨_,rfl⟩
  rw [hm2] at hbt q1 q2 q4
  obtain ⟨L3,e3,e4,hr3⟩:=q1.opens q2.down HLIM.out
  subst e4
  obtain ⟨cl1,cl2,cl3⟩:=q1.clean q2 hr3
  obtain ⟨N3,hN3⟩:∃ k,recN L3.dk L3.man.segs=k:=⟨_,rfl⟩
  rw [hN3] at cl2
  have HBT:=hid hbt
  have HO2:=hid (And.intro q4.ok (And.intro hr3 q4))
  have HCL:=hid cl3
  have HN3:=hid (And.intro hN3 cl2)
  have HE3:=hid e3
  have HW1:=hid hW1
  clear hga hit hd0 hout2 hlit hbt q1 q2 q3 q4 hm2 e3 hr3 cl1 cl2 cl3 hN3 hW1 hlt HT HOL HI HLM
  go_wp2_with (first | rw [HW1.out] | fail)
  refine HBT.out.mono ?_
  rintro e w3 ⟨rfl,hd3,_⟩
  have hop:=Zdq lim w3 hd3 HO2.out.1 (by omega)
  rw [HE3.out] at hop
  have HOP:=hid hop
  clear hop hd3 HBT HE3
  go_wp2_with (fail)
  refine HOP.out.mono ?_
  rintro e w4 ⟨hg4,(⟨h0,_⟩ | ⟨L4,l4,h0,_,rfl,hl4⟩)⟩
  ·cases h0
  injection h0 with h0
  subst h0
  have HL4:=hid (show LgIn w.heap.size w w4 d l4 out2 L3 from hl4)
  have hrec:=Zge w4 HL4.out HO2.out.2.1 HO2.out.2.2 (by omega) (by omega)
  rw [HN3.out.1] at hrec
  have HREC:=hid hrec
  clear hg4 hl4 HOP hrec
  go_wp2_with (fail)
  refine HREC.out.mono ?_
  rintro e w5 ⟨A5,c5,rfl,hg5⟩
  have HL5:=hid (HL4.out.grow hg5)
  clear hg5 HREC HL4
  obtain ⟨A6',n6,c6',h6⟩:=HL5.out
  have HNL:=hid (show L3.man.segs.length=n6∧n6≤1000 from ⟨h6.ints.len,by rw [←h6.ints.len];exact HO2.out.2.1.few⟩)
  have HSG:=hid (Zap h6 HO2.out.2.1)
  clear h6
  go_wp2_with (fail)
  refine HSG.out.mono ?_
  rintro e w6 ⟨A6,c6,rfl,ho6,hg6⟩
  have HO:=hid (show OwnG w.heap.size w6 (fun k=>out2 k∨(w5.heap.size≤k∧k < w6.heap.size)) 3 1 A6 n6 c6 (L3.man.segs.map iV) from ⟨Zg ho6 HL5.out.size,fun g e=>.inr (ho6.lt g e)⟩)
  have HL6:=hid (HL5.out.more hg6)
  obtain ⟨out3,hout3⟩:∃ o:Nat→Prop,(fun k=>out2 k∨(w5.heap.size≤k∧k < w6.heap.size))=o:=⟨_,rfl⟩
  rw [hout3] at HO HL6
  clear ho6 hg6 hout3 HSG HL5
  obtain ⟨A7,n7,c7,h7⟩:=HL6.out
  have HC:=hid (Zoq w6 h7 HO2.out.2.1 HO2.out.2.2 (by omega) (by omega))
  clear h7
  go_wp2_with (fail)
  refine HC.out.mono ?_
  rintro e w8 ⟨rfl,h8,st8⟩
  have HL8:=hid (show LgIn w.heap.size w w8 d l4 out3 (J9 L3) from h8)
  have HO8:=hid (HO.out.stays st8)
  have HK8:=hid (show LOk 140000 65599 (J9 L3).dk from by
   have h1:=HO2.out.2.2.removes ((L3.dk.names.map (·.1)).filter (Z9 L3))
   refine LOk.mono h1 ?_ (Nat.le_refl _)
   have h2:((L3.dk.names.map (·.1)).filter (Z9 L3)).length≤(L3.dk.names.map (·.1)).length:=List.length_filter_le _ _
   rw [List.length_map] at h2
   have h3:L3.dk.names.length≤70000:=by obtain ⟨P,h⟩:=HO2.out.2.2;exact h.names
   omega)
  have hR8:LgR (J9 L3):=HO2.out.2.1.on _
  have HR8:=hid hR8
  have HLS:=hid (Zkx HL8.out.dkIn (HK8.out.ok.mono (K':=300000) (by omega)) (by omega))
  have HNS:=hid (show (J9 L3).dk.names.length≤140000 by obtain ⟨P,h⟩:=HK8.out;exact h.names)
  have HSML:=hid HK8.out.small
  have HMAN:=hid (show (J9 L3).man.segs=L3.man.segs from rfl)
  obtain ⟨L8,hL8⟩:∃ x,J9 L3=x:=⟨_,rfl⟩
  rw [hL8] at HL8 HK8 HR8 HLS HCL HNS HSML HMAN HN3
  clear h8 st8 HC hR8 hL8 HL6 HO
  obtain ⟨N9,hN9⟩:∃ k,L8.dk.names.length=k:=⟨_,rfl⟩
  rw [hN9] at HLS HNS
  have HN9:=hid hN9
  clear hN9
  go_wp2_with (fail)
  refine HLS.out.mono ?_
  rintro e w9 ⟨A9,c9,rfl,ho9,hg9⟩
  have HRW:=hid (Row.owned ho9)
  have HL9:=hid (HL8.out.grow hg9)
  have HO9:=hid (HO8.out.grow hg9)
  clear ho9 hg9 HLS HL8 HO8
  go_wp2_with (fail)
  go_loopw [16] (fun vi wr=>∃ (i:Nat),i≤N9∧vi=.int .i64 (i:Nat)∧Hid (Grows w9 wr)) (fun i _=>N9 - (intOf i).toNat)
  case atStart=>exact ⟨0,Nat.zero_le _,rfl,hid (Grows.refl _)⟩
  case round =>
   obtain ⟨i,hi,rfl,HG⟩:=hrel
   by_cases hlt:i < N9
   ·have hlt':(i:Int) < (N9:Int):=by omega
    have hj0:(0:Int)≤(i:Int):=by omega
    have e5:IntKind.i64.wrap ((i:Int)+1)=(i:Int)+1:=IntWalk.i64_in _ ⟨by omega,by have:=HNS.out;omega⟩
    have HLT:=hid hlt
    obtain ⟨x,hx⟩:∃ x,(L8.dk.names.map (·.1))[i]?=some x:=⟨_,List.getElem?_eq_getElem (by rw [List.length_map,HN9.out];exact hlt)⟩
    obtain ⟨ad,rfl,hb,hc⟩:=HRW.out.spot i (strB x) (by rw [List.getElem?_map,hx];rfl)
    have x0:wr.cell? (ad.add i)=some (.string ⟨x.toArray⟩):=by rw [HG.out.cell (by rw [Zk];exact hb)];exact hc
    have hmem:=List.mem_of_getElem? hx
    obtain ⟨k,a,hp,hk4,hks⟩:=HCL.out x hmem
    have hpa:=Zi2 x (by have:=HSML.out x hmem;omega) wr
    rw [hp] at hpa
    have HPA:=hid (show Calls Tryz.prog 47 #[.string ⟨x.toArray⟩] wr fun e w'=>e=.returned (.tuple #[.int .i64 k,.int .i64 a,.bool true])∧Grows wr w' from hpa)
    have hkf:(k==4)=false:=by rw [beq_eq_false_iff_ne];exact hk4
    have HKS:=hid hks
    clear hx hb hc hmem hp hk4 hks hpa hlt
    obtain ⟨sx,hsx⟩:∃ s:ByteArray,(⟨x.toArray⟩:ByteArray)=s:=⟨_,rfl⟩
    rw [hsx] at x0 HPA
    clear hsx
    go_wp2_with (fail)
    refine HPA.out.mono ?_
    rintro e w10 ⟨rfl,hg10⟩
    have HG10:=hid (Grows.trans HG.out hg10)
    clear hg10 HPA x0
    by_cases hk2:k≤2
    ·have hh:=Zor A6 n6 c6 L3.man.segs a w10 (Ints.owned (HO9.out.grow HG10.out).own).row (by have:=HNL.out;omega)
     rw [decide_eq_true (HKS.out hk2)] at hh
     have HH:=hid hh
     clear hh
     go_wp2_with (fail)
     refine HH.out.mono ?_
     rintro e w11 ⟨rfl,hg11⟩
     have HG11:=hid (Grows.trans HG10.out hg11)
     clear hg11 HH
     go_wp2_with (fail)
     exact ⟨⟨i+1,HLT.out,rfl,HG11⟩,Yg HLT.out⟩
    ·go_wp2_with (fail)
     exact ⟨⟨i+1,HLT.out,rfl,HG10⟩,Yg HLT.out⟩
   obtain rfl:i=N9:=by omega
   have hlt':¬ ((i:Int) < (i:Int)):=by omega
   have HLA:=hid (HL9.out.grow HG.out)
   have HOA:=hid (HO9.out.grow HG.out)
   have hrec:=Zge wr HLA.out HR8.out HK8.out (by omega) (by omega)
   rw [HMAN.out,HN3.out.2] at hrec
   have HREC:=hid hrec
   clear hrec hlt
   go_wp2_with (fail)
   refine HREC.out.mono ?_
   rintro e wx ⟨AX,cx,rfl,hgx⟩
   have HLX:=hid (HLA.out.grow hgx)
   have HOX:=hid (HOA.out.grow hgx)
   obtain ⟨AY,ny,cy,hy⟩:=HLX.out
   have hseg:=Zap hy HR8.out
   have HNY:=hid (show L3.man.segs.length=ny by rw [←HMAN.out];exact hy.ints.len)
   rw [HMAN.out] at hseg
   have HSG2:=hid hseg
   clear hgx HREC hy hseg
   go_wp2_with (fail)
   refine HSG2.out.mono ?_
   rintro e wy ⟨AZ,cz,rfl,hoz,hgz⟩
   have HLY:=hid (HLX.out.grow hgz)
   have hsi:=Zhv AZ ny cz A6 n6 c6 L3.man.segs L3.man.segs wy (Ints.owned hoz).row (Ints.owned (HOX.out.grow hgz).own).row (by have:=HNY.out;have:=HNL.out;omega)
   rw [decide_eq_true rfl] at hsi
   have HSI:=hid hsi
   clear hsi hoz hgz HSG2
   go_wp2_with (fail)
   refine HSI.out.mono ?_
   rintro e wz ⟨rfl,hgw⟩
   have HLZ:=hid (HLY.out.grow hgw)
   clear hgw HSI
   go_wp2_with (fail)
   go_ret
   exact ⟨rfl,HLZ.out.low⟩

theorem logClean_lifted (os:Os) (started:os.Started) (H:Type) (enc:TypeId×Value→H) :
 ReturnsInHanded {} Tryz.checked os 5 .any (Rows.logCleanSpec.pre6 enc Tryz.prog Tryz.f5 Rows.logCleanRow.domain false) (Rows.logCleanSpec.post enc Tryz.prog Tryz.f5 false true false false):=by
 refine Zss (C:=Tryz.checked) H enc own started (by kernel_rfl) Tryz.func5
  (ChangeSpec.witness6 (enc:=enc) (C:=Tryz.checked) false ⟨#[],#[.int .u16 0,.slice none 0 0],[]⟩ 16 (by kernel_rfl) (by kernel_rfl) (by kernel_rfl) (by kernel_rfl))
  laidOut (Zkv (by kernel_rfl)) rfl Tryz.underlying4 rfl (fun ds hd=>?_) (fun W base args ds p hval hA hsz=>?_)
 ·match ds,hd with
  | [d1,d2],_=>rfl
 ·rw [Tryz.params5] at hA hval hsz
  obtain ⟨v0,vs0,d0,ds0,p0,q0,hargs,rfl,rfl,h0,r0⟩:=trodAll_cons hA
  obtain ⟨v1,vs1,d1,ds1,p1,q1,rfl,rfl,rfl,h1,r1⟩:=trodAll_cons r0
  obtain ⟨rfl,rfl,rfl⟩:=trodAll_nil r1
  obtain rfl:args=#[v0,v1]:=by cases args;simp_all
  obtain ⟨a0,rfl,_,_,w0⟩:=open_int Tryz.underlying58 (hval 0 58 v0 rfl rfl) h0
  have b0:=bounds_u16 w0
  obtain ⟨A1,n1,c1,xs1,rfl,hx1⟩:=Zov (hval 1 22 v1 rfl rfl) h1 hsz (j:=1) rfl rfl
  exact Zi3 W a0 (by omega) A1 n1 c1 xs1 hx1

theorem logClean_re:(Rows.logCleanRow.recurses==Tryz.pinned.checked.prog.recurses 5)=true:=by kernel_rfl
theorem logClean_un:(Rows.logCleanRow.unfollowed==Tryz.pinned.checked.prog.unfollowed 5)=true:=by kernel_rfl
theorem logClean_in:(Rows.logCleanRow.inPlace==Tryz.pinned.checked.prog.inPlace 5)=true:=by kernel_rfl
theorem logClean_na:(Rows.logCleanRow.named==Tryz.pinned.checked.prog.varsNamed 5)=true:=by kernel_rfl
theorem logClean_closed:joinedFacts Tryz.pinned.checked.prog 5 Tryz.f5 Rows.logCleanSpec Rows.logCleanRow=true:=by
 unfold joinedFacts
 rw [logClean_re,logClean_un,logClean_in,logClean_na]
 kernel_rfl
theorem logClean_over:Rows.logCleanRow.holds Tryz.pinned (OpenSpec.ofChange Rows.logCleanSpec) :=
 OpenClaim.holds_of_wide 5 Tryz.f5 rfl rfl rfl rfl rfl rfl rfl ⟨rfl,rfl,rfl,rfl,rfl⟩ rfl rfl rfl rfl rfl (by kernel_rfl) Tryz.func5 logClean_closed
  (of_decide_eq_true (by kernel_rfl)) (by unfold Func.isWrapper;first | (rw [if_pos (by decide +kernel)];kernel_rfl) | (rw [if_neg (by decide +kernel)];exact ⟨rfl,rfl⟩))
  (fun os started H enc _=>logClean_lifted os started H enc)
theorem logClean_holds:Rows.LogCleanSaid:=logClean_over
end Go.Proofs.YtkelafkbmnjpeaaGreat
