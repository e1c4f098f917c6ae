import Derived.Test.YtkelafkbmnjpeaaGreatLgHead
import Derived.Test.YtkelafkbmnjpeaaGreatMG38
import Derived.Test.YtkelafkbmnjpeaaGreatMG39
import Derived.Test.YtkelafkbmnjpeaaGreatMG40
import Derived.Test.YtkelafkbmnjpeaaGreatRcRefRight
import Derived.Test.YtkelafkbmnjpeaaGreatFactsPlain
import Derived.Deep.CutBlock
import Derived.Deep.RegionWith
import Derived.ProofKit
import Derived.ChangeOld
set_option linter.unusedSimpArgs false
set_option linter.unusedVariables false
set_option maxHeartbeats 16000000
set_option maxRecDepth 100000
namespace Go.Proofs.YtkelafkbmnjpeaaGreat
open Go.Lib (hid)
open Go.ChangeShapes Go.WideShapes Go.ChangeAt Go.RowKit
attribute [local irreducible] wpF
theorem box15 {w:World} {g:Nat} {t:TypeId} {v0 v1 v2 v3 v4 v5 v6 v7 v8 v9 v10 v11 v12:Value} (h:Whole w g t #[v0,v1,v2,v3,v4,v5,v6,v7,v8,v9,v10,v11,v12]) :
 w.cell? { block:=g,off:=0 }=some v0∧w.cell? { block:=g,off:=1 }=some v1∧w.cell? { block:=g,off:=2 }=some v2∧w.cell? { block:=g,off:=3 }=some v3∧w.cell? { block:=g,off:=4 }=some v4∧w.cell? { block:=g,off:=5 }=some v5∧w.cell? { block:=g,off:=6 }=some v6∧w.cell? { block:=g,off:=7 }=some v7∧w.cell? { block:=g,off:=8 }=some v8∧w.cell? { block:=g,off:=9 }=some v9∧w.cell? { block:=g,off:=10 }=some v10∧w.cell? { block:=g,off:=11 }=some v11∧w.cell? { block:=g,off:=12 }=some v12 :=
 ⟨h.cell 0,h.cell 1,h.cell 2,h.cell 3,h.cell 4,h.cell 5,h.cell 6,h.cell 7,h.cell 8,h.cell 9,h.cell 10,h.cell 11,h.cell 12⟩
theorem Zt8 {w w':World} {a:Addr} {o:O15} {p:P15} (hb:a.block < w.heap.size) (hc:∀ k,k < 13→w.cell? (a.add k)=(o15V o p)[k]?) (hg:Grows w w') :
 w'.cell? a=some (.int .i64 o.what)∧w'.cell? { block:=a.block,off:=a.off+1 }=some (.int .i64 o.x.kind)∧w'.cell? { block:=a.block,off:=a.off+2 }=some (.string ⟨o.x.key.toArray⟩)∧w'.cell? { block:=a.block,off:=a.off+3 }=some (.int .i64 o.x.id)∧w'.cell? { block:=a.block,off:=a.off+4 }=some (.int .i64 o.x.no)∧w'.cell? { block:=a.block,off:=a.off+5 }=some (.int .i64 o.x.size)∧w'.cell? { block:=a.block,off:=a.off+6 }=some (.slice p.LA p.ln p.lc)∧w'.cell? { block:=a.block,off:=a.off+7 }=some (.slice p.BA p.bn p.bc)∧w'.cell? { block:=a.block,off:=a.off+8 }=some (.int .i64 o.n)∧w'.cell? { block:=a.block,off:=a.off+9 }=some (.int .i64 o.at')∧w'.cell? { block:=a.block,off:=a.off+10 }=some (.slice p.SA p.sn p.sc)∧w'.cell? { block:=a.block,off:=a.off+11 }=some (.slice p.IA p.im p.ic)∧w'.cell? { block:=a.block,off:=a.off+12 }=some (.int .u32 o.bits):=by
 have key:∀ k,k < 13→w'.cell? (a.add k)=(o15V o p)[k]?:=fun k hk=>(hg.cell (by rw [Zk];exact hb)).trans (hc k hk)
 have h0:=key 0 (by omega)
 rw [show a.add 0=a by unfold Addr.add;simp] at h0
 have h1:=key 1 (by omega)
 have h2:=key 2 (by omega)
 have h3:=key 3 (by omega)
 have h4:=key 4 (by omega)
 have h5:=key 5 (by omega)
 have h6:=key 6 (by omega)
 have h7:=key 7 (by omega)
 have h8:=key 8 (by omega)
 have h9:=key 9 (by omega)
 have h10:=key 10 (by omega)
 have h11:=key 11 (by omega)
 have h12:=key 12 (by omega)
 rw [Addr.add_succ'] at h1 h2 h3 h4 h5 h6 h7 h8 h9 h10 h11 h12
 exact ⟨h0,h1,h2,h3,h4,h5,h6,h7,h8,h9,h10,h11,h12⟩
theorem len15 {os:List O15} {o:O15} (h:o∈os):Zdi o≤Zb4 os:=by
 obtain ⟨i,hi⟩:=List.mem_iff_getElem?.1 h
 have h1:=Zoj hi
 have h2:=Zlv os (i+1)
 omega
theorem Zis (w:World) (u:Int) (hu:0≤u∧u≤65535) (A0:Option Addr) (n0 c0:Nat) (os:List O15) (hx:Ops15 w A0 n0 c0 os) :
 Calls Tryz.prog 4 #[.int .u16 u,.slice A0 n0 c0] w fun e w'=>e=.returned (.bool true)∧Below w.heap.size w w':=by
 have HX:=hid hx
 clear hx
 obtain ⟨i1,hi1,hz1,hy1,hb1⟩:=info_parts infoSt
 have HI1:=hid (And.intro hi1 (And.intro hz1 (And.intro hy1 hb1)))
 clear hi1 hz1 hy1 hb1
 have hm1:IntKind.i64.wrap u=u:=IntWalk.i64_in _ (by omega)
 obtain ⟨lim,hlim⟩:∃ x,64+u=x:=⟨_,rfl⟩
 have hm2:IntKind.i64.wrap (64+u)=lim:=by rw [hlim];exact IntWalk.i64_in _ (by omega)
 have HLIM:=hid (show 64≤lim∧lim≤65599 by omega)
 clear hlim hu
 go_enter Tryz.func4,Tryz.ntmps4
 go_wp2_with (fail)
 refine (Zmx w).mono ?_
 rintro e w0 ⟨rfl,hb0⟩
 have HB0:=hid (show Grows w w0 from hb0)
 clear hb0
 go_wp2_with (fail)
 refine (Zot w0 4194304).mono ?_
 rintro e w1 ⟨d,rfl,hn⟩
 have HD1:=hid (show DkIn w.heap.size w w1 d (fun _=>False) (Dk.new 4194304) from DkIn.new hn HB0.out.size HB0.out (fun k h=>h.elim))
 clear hn
 go_wp2_with (fail)
 refine (Zlw A0 n0 c0 os w1 (HX.out.grow HD1.out.low)).mono ?_
 rintro e w1b (⟨rfl,hg⟩ | ⟨rfl,h100,hall,hg⟩)
 ·have hlow:=(HD1.out.grow hg).low
  go_wp2_with (fail)
  go_ret
  exact ⟨rfl,hlow⟩
 have HGR:=hid hall
 have HD2:=hid (HD1.out.grow hg)
 clear hall hg HD1
 obtain ⟨w1,rfl⟩:∃ x,x=w1b:=⟨_,rfl⟩
 have HD1:=HD2
 clear HD2
 have hop:=Zf0 lim w1 HD1.out (LOk.new (S:=13) 4194304).ok (by omega)
 rw [Ztt (by have:=HLIM.out;omega)] at hop
 have HOP:=hid hop
 clear hop
 go_wp2_with (fail)
 refine HOP.out.mono ?_
 rintro e w2 ⟨hg2,(⟨h0,_⟩ | ⟨L,l,h0,_,rfl,hl⟩)⟩
 ·cases h0
 injection h0 with h0
 subst h0
 have HL2:=hid (show LgIn w.heap.size w w2 d l (fun _=>False) (LG0 lim) from hl)
 clear hg2 hl HOP
 go_wp2_with (fail)
 go_loopw [10,11] (fun va vi wr=>∃ (j:Nat) (L:Lg) (A:Option Addr) (q c:Nat) (st:List ((Int×Int×Rc)×Fh)) (rs:Int→List Rc) (out:Nat→Prop),j≤n0∧q≤j∧va=.slice A q c∧vi=.int .i64 (j:Nat)∧Hid (LgIn w.heap.size w wr d l out L)∧Hid (TL (700*j) (3*j) j L rs)∧Hid (L.limit=lim)∧Hid (ST L rs (st.map (·.1)))∧Hid (AllS w.heap.size w wr out A q c st)) (fun _ i _=>n0 - (intOf i).toNat)
 case atStart=>exact ⟨0,_,none,0,0,[],_,fun _=>False,Nat.zero_le _,Nat.le_refl _,rfl,rfl,HL2,hid (TL.new HLIM.out),hid rfl,hid (ST.nil _ _),hid (AllS.nil _ _ _ _)⟩
 case round =>
  obtain ⟨j,L,A,q,c,st,rs,out,hj,hq,rfl,rfl,HI,HT,HLM,HST,HA⟩:=hrel
  clear HL2 HD1
  by_cases hlt:j < n0
  ·skip
   obtain ⟨wa,rfl⟩:∃ x,x=wr:=⟨_,rfl⟩
   have hlt':(j:Int) < (n0:Int):=by omega
   have hj0:(0:Int)≤(j:Int):=by omega
   have e5:IntKind.i64.wrap ((j:Int)+1)=(j:Int)+1:=IntWalk.i64_in _ ⟨by omega,by omega⟩
   have HK:=hid (show j≤100∧q≤j∧n0≤100 by omega)
   obtain ⟨ad,o,p,rfl,hblk,hoi,hop,hcs⟩:=HX.out.spot j hlt
   have hqs:=Zt8 (by rw [Zk];exact hblk) hcs HI.out.low
   have HLT:=hid hlt
   have hin:=hop.x
   have hsg:=hop.segs
   have hes:=hop.eachS
   have hby:=hop.bytes
   have heb:=hop.each
   have hnb:=hop.n
   have hab:=hop.at'
   have hbb:=hop.bits
   obtain ⟨LA,ln,lc,BA,bn,bc,SA,sn,sc,IA,im,ic⟩:=p
   dsimp only at hqs hin hsg hby
   have HIN:=hid (show RcIn w LA ln lc BA bn bc o.x from hin)
   have HOS:=hid (show o∈os from List.mem_of_getElem? hoi)
   obtain ⟨s,hs⟩:∃ s:ByteArray,(⟨o.x.key.toArray⟩:ByteArray)=s:=⟨_,rfl⟩
   obtain ⟨k0,hk0⟩:∃ k,o.what=k:=⟨_,rfl⟩
   obtain ⟨kk,hkk⟩:∃ k,o.x.kind=k:=⟨_,rfl⟩
   obtain ⟨i0,hi0⟩:∃ k,o.x.id=k:=⟨_,rfl⟩
   obtain ⟨n9,hn9⟩:∃ k,o.x.no=k:=⟨_,rfl⟩
   obtain ⟨z0,hz0⟩:∃ k,o.x.size=k:=⟨_,rfl⟩
   obtain ⟨nn,hnn⟩:∃ k,o.n=k:=⟨_,rfl⟩
   obtain ⟨aa,haa⟩:∃ k,o.at'=k:=⟨_,rfl⟩
   obtain ⟨bb,hbe⟩:∃ k,o.bits=k:=⟨_,rfl⟩
   rw [hs,hk0,hkk,hi0,hn9,hz0,hnn,haa,hbe] at hqs
   rw [hnn] at hnb
   rw [haa] at hab
   rw [hbe] at hbb
   obtain ⟨ds,hds⟩:∃ k,o.segs=k:=⟨_,rfl⟩
   rw [hds] at hsg hes
   have HNB:=hid (And.intro hnb (And.intro hab hbb))
   have HSG:=hid (And.intro hsg (And.intro hes hds))
   have HEQ:=hid (And.intro hkk (And.intro hs (And.intro hi0 (And.intro hn9 hz0))))
   have HBY:=hid (And.intro hby heb)
   obtain ⟨W1,hW1⟩:∃ W,wa.alloc (.cells #[.int .i64 k0,.int .i64 kk,.string s,.int .i64 i0,.int .i64 n9,.int .i64 z0,.slice LA ln lc,.slice BA bn bc,.int .i64 nn,.int .i64 aa,.slice SA sn sc,.slice IA im ic,.int .u32 bb] 43)=W:=⟨_,rfl⟩
   have hga:Grows wa W1:=by rw [←hW1];exact Zb _ _
   have HBX:=hid (show Whole W1 wa.heap.size 43 #[.int .i64 k0,.int .i64 kk,.string s,.int .i64 i0,.int .i64 n9,.int .i64 z0,.slice LA ln lc,.slice BA bn bc,.int .i64 nn,.int .i64 aa,.slice SA sn sc,.slice IA im ic,.int .u32 bb] by rw [←hW1];exact Whole.made _ _ _)
   have hsz1:W1.heap.size=wa.heap.size+1:=by rw [←hW1,World.size_alloc]
   obtain ⟨q0,q1,q2,q3,q4,q5,q6,q7,q8,q9,q10,q11,q12⟩:=hqs
   have H1:=hid (HI.out.more hga)
   have HA1:=hid ((HA.out.grow hga).wider (out':=fun k=>out k∨(wa.heap.size≤k∧k < W1.heap.size)) fun k hk=>.inl hk)
   have hob:(fun k=>out k∨(wa.heap.size≤k∧k < W1.heap.size)) wa.heap.size:=.inr ⟨Nat.le_refl _,by omega⟩
   obtain ⟨out2,hout2⟩:∃ o:Nat→Prop,(fun k=>out k∨(wa.heap.size≤k∧k < W1.heap.size))=o:=⟨_,rfl⟩
   rw [hout2] at H1 HA1 hob
   have HOB:=hid hob
   have HW1:=hid hW1
   clear hblk hoi hop hcs hin hsg hes hby heb hnb hab hbb hs hk0 hkk hi0 hn9 hz0 hnn haa hbe hds hga hsz1 hob hout2
   obtain ⟨b0,b1,b2,b3,b4,b5,b6,b7,b8,b9,b10,b11,b12⟩:=box15 HBX.out
   obtain ⟨A1,n1,c1,hat⟩:=H1.out
   have HAT:=hid hat
   clear hat hW1
   have hk5:=HT.out.ok.ok
   by_cases h5:k0=5
   ·subst h5
    as_aux_lemma =>
     have HC:=hid (Ziy W1 HAT.out HT.out.ok.ok (by have:=HK.out;omega))
     go_wp2_with (first | rw [HW1.out] | fail)
     refine HC.out.mono ?_
     rintro e w5 ⟨rfl,h5,st5⟩
     have H5:=hid (show LgIn w.heap.size w w5 d l out2 ((Z5 L).1) from h5.in)
     have HA5:=hid (HA1.out.stays st5)
     clear h5 st5 HC
     go_wp2_with (fail)
     exact ⟨⟨j+1,(Z5 L).1,A,q,c,st,_,out2,HLT.out,by have:=HK.out;omega,rfl,rfl,H5,hid (HT.out.sync.mono (by have:=HK.out;omega) (by omega) (by omega)),hid ((Zb7 L).2.2.trans HLM.out),hid (HST.out.after fun n hn=>⟨by rw [(Zb7 L).1];exact hn,[],(List.append_nil _).symm⟩),HA5⟩,Yf HLT.out⟩
   have g5:(k0==5)=false:=by rw [beq_eq_false_iff_ne];exact h5
   by_cases h6:k0=6
   ·subst h6
    as_aux_lemma =>
     obtain ⟨rs2,t1,t2,t3,_,_⟩:=HT.out.roll
     have HT2:=hid (t1.mono (T':=700*(j+1)) (N':=3*(j+1)) (Z':=j+1) (by have:=HK.out;omega) (by omega) (by omega))
     have HLM2:=hid (t2.trans HLM.out)
     have HST2:=hid (show ST (rollP L).1 rs2 (st.map (·.1)) from HST.out.after fun n hn=>⟨(t3 n hn).1,[],by rw [(t3 n hn).2,List.append_nil]⟩)
     clear t1 t2 t3
     have HC:=hid (Ziu W1 HAT.out HT.out.r HT.out.ok (by have:=HK.out;omega) (by omega))
     go_wp2_with (first | rw [HW1.out] | fail)
     refine HC.out.mono ?_
     rintro e w5 ⟨rfl,h5,st5⟩
     have H5:=hid (show LgIn w.heap.size w w5 d l out2 ((rollP L).1) from h5)
     have HA5:=hid (HA1.out.stays st5)
     clear h5 st5 HC
     go_wp2_with (fail)
     exact ⟨⟨j+1,(rollP L).1,A,q,c,st,_,out2,HLT.out,by have:=HK.out;omega,rfl,rfl,H5,hid (HT2.out),hid (HLM2.out),hid (HST2.out),HA5⟩,Yf HLT.out⟩
   have g6:(k0==6)=false:=by rw [beq_eq_false_iff_ne];exact h6
   by_cases h8:k0=8
   ·subst h8
    as_aux_lemma =>
     have HC:=hid (Zof W1 HAT.out HT.out.r HT.out.ok (by have:=HK.out;omega) (by omega))
     go_wp2_with (first | rw [HW1.out] | fail)
     refine HC.out.mono ?_
     rintro e w5 ⟨rfl,h5,st5⟩
     have H5:=hid (show LgIn w.heap.size w w5 d l out2 (Zeq L) from h5)
     have HA5:=hid (HA1.out.stays st5)
     clear h5 st5 HC
     go_wp2_with (fail)
     exact ⟨⟨j+1,Zeq L,A,q,c,st,_,out2,HLT.out,by have:=HK.out;omega,rfl,rfl,H5,hid (HT.out.clean.mono (by have:=HK.out;omega) (by omega) (by omega)),hid (HLM.out),hid (HST.out.after fun n hn=>⟨hn,[],(List.append_nil _).symm⟩),HA5⟩,Yf HLT.out⟩
   have g8:(k0==8)=false:=by rw [beq_eq_false_iff_ne];exact h8
   by_cases h10:k0=10
   ·subst h10
    as_aux_lemma =>
     have HC:=hid (HAT.out.dop (f:=15) (args:=#[.pointer (some ⟨d,0,none⟩),.int .i64 nn]) (v:=.returned (.tuple #[])) (m':=L.dk.setFail nn) fun out' ho hd=>Zuk nn hd)
     go_wp2_with (first | rw [HW1.out] | fail)
     refine HC.out.mono ?_
     rintro e w5 ⟨rfl,h5,st5⟩
     have H5:=hid (show LgIn w.heap.size w w5 d l out2 (L.on (L.dk.setFail nn)) from h5.in)
     have HA5:=hid (HA1.out.stays st5)
     clear h5 st5 HC
     go_wp2_with (fail)
     exact ⟨⟨j+1,L.on (L.dk.setFail nn),A,q,c,st,_,out2,HLT.out,by have:=HK.out;omega,rfl,rfl,H5,hid ((HT.out.fail (by have:=HNB.out.1;omega)).mono (by have:=HK.out;omega) (by omega) (by omega)),hid (HLM.out),hid (HST.out.after fun n hn=>⟨hn,[],(List.append_nil _).symm⟩),HA5⟩,Yf HLT.out⟩
   have g10:(k0==10)=false:=by rw [beq_eq_false_iff_ne];exact h10
   by_cases h7:k0=7
   ·subst h7
    have hdr:=Zfy SA sn sc ds W1 ((HSG.out.1.grow HI.out.low).grow (by rw [←HW1.out];exact Zb _ _)) (by have h1:=len15 HOS.out;have h2:=HGR.out;have h3:=HSG.out.1.len;unfold Zdi at h1;rw [HSG.out.2.2] at h1;omega) (fun ad e hne=>.inl (HSG.out.1.blk ad e hne)) HAT.out HT.out.r HT.out.ok (by have:=HK.out;omega) (by omega)
    have HC:=hid hdr
    have HT2:=hid ((HT.out.drop ds).mono (T':=700*(j+1)) (N':=3*(j+1)) (Z':=j+1) (by have:=HK.out;omega) (by omega) (by omega))
    obtain ⟨k1,k2,k3,k4⟩:=Zck L ds
    have HLM2:=hid (k2.trans HLM.out)
    clear hdr k1 k2
    obtain ⟨⟨L5,v5⟩,hL5⟩:∃ y,dropP L ds=y:=⟨_,rfl⟩
    rw [hL5] at HC HT2 HLM2 k3 k4
    dsimp only at k3 k4
    clear hL5
    by_cases hv:v5=0
    rotate_left 1
    ·have hv':(v5==0)=false:=by rw [beq_eq_false_iff_ne];exact hv
     have HST2:=hid (show ST L5 rs (st.map (·.1)) from HST.out.after fun n hn=>⟨by rw [k4 hv];exact hn,[],(List.append_nil _).symm⟩)
     clear k3 k4 hv
     go_wp2_with (first | rw [HW1.out] | fail)
     refine HC.out.mono ?_
     rintro e w5 ⟨rfl,h5,st5⟩
     have H5:=hid (show LgIn w.heap.size w w5 d l out2 L5 from h5)
     have HA5:=hid (HA1.out.stays st5)
     clear h5 st5 HC
     go_wp2_with (fail)
     exact ⟨⟨j+1,L5,A,q,c,st,rs,out2,HLT.out,by have:=HK.out;omega,rfl,rfl,H5,HT2,HLM2,HST2,HA5⟩,Yf HLT.out⟩
    subst hv
    have HMN:=hid (show L5.man.segs=Yl ds L.man.segs by rw [(k3 rfl).1])
    clear k3 k4
    go_wp2_with (first | rw [HW1.out] | fail)
    refine HC.out.mono ?_
    rintro e w5 ⟨rfl,h5,st5⟩
    have H5:=hid (show LgIn w.heap.size w w5 d l out2 L5 from h5)
    have HA5:=hid (HA1.out.stays st5)
    have HBX5:=hid (Zo st5 HBX.out HOB.out)
    clear h5 st5 HC b0 b1 b2 b3 b4 b5 b6 b7 b8 b9 b10 b11 b12 q0 q1 q2 q3 q4 q5 q6 q7 q8 q9 q10 q11 q12
    go_wp2_with (fail)
    go_loopw [13,14] (fun vl vk wx=>∃ (k:Nat) (A':Option Addr) (q' c':Nat) (st':List ((Int×Int×Rc)×Fh)) (out':Nat→Prop),k≤q∧q'≤k∧vl=.slice A' q' c'∧vk=.int .i64 (k:Nat)∧Hid (LgIn w.heap.size w wx d l out' L5)∧Hid (AllS w.heap.size w wx out' A q c st)∧Hid (Whole wx wa.heap.size 43 #[.int .i64 7,.int .i64 kk,.string s,.int .i64 i0,.int .i64 n9,.int .i64 z0,.slice LA ln lc,.slice BA bn bc,.int .i64 nn,.int .i64 aa,.slice SA sn sc,.slice IA im ic,.int .u32 bb])∧Hid (w5.heap.size≤wx.heap.size)∧Hid (AllS w5.heap.size w wx out' A' q' c' st')∧Hid (st'=(st.take k).filter fun p=>!decide (p.1.1∈ds))) (fun _ i _=>q - (intOf i).toNat)
    case atStart=>exact ⟨0,none,0,0,[],out2,Nat.zero_le _,Nat.le_refl _,rfl,rfl,H5,HA5,HBX5,hid (Nat.le_refl _),hid (AllS.nil _ _ _ _),hid rfl⟩
    case round =>
     obtain ⟨k,A',q',c',st',out',hk,hq',rfl,rfl,HI',HA',HB',HZ',HL',HF'⟩:=hrel
     have HK':=hid (show k≤100∧q≤100∧q'≤k by have:=HK.out;omega)
     by_cases hkq:k < q
     rotate_left 1
     ·obtain rfl:k=q:=by omega
      have hkq':¬ ((k:Int) < (k:Int)):=by omega
      have HST2:=hid (show ST L5 rs (st'.map (·.1)) by
       have:=HST.out.drop HMN.out
       rw [HF'.out,List.take_of_length_le (by rw [HA'.out.len];exact Nat.le_refl _)]
       rw [List.filter_map] at this
       exact this)
      have HAE:=hid (show AllS w.heap.size w wr out' A' q' c' st' from ⟨⟨Zh HL'.out.own.own H5.out.size,HL'.out.own.mine⟩,HL'.out.len,HL'.out.recs⟩)
      go_wp2_with (fail)
      exact ⟨⟨j+1,L5,A',q',c',st',rs,out',HLT.out,by have:=HK'.out;have:=HK.out;omega,rfl,rfl,HI',HT2,HLM2,HST2,HAE⟩,Yf HLT.out⟩
     have hkq':(k:Int) < (q:Int):=by omega
     have hk0:(0:Int)≤(k:Int):=by omega
     have ek:IntKind.i64.wrap ((k:Int)+1)=(k:Int)+1:=IntWalk.i64_in _ ⟨by omega,by have:=HK'.out;omega⟩
     have HKQ:=hid hkq
     obtain ⟨x,hx⟩:∃ x,st[k]?=some x:=⟨_,List.getElem?_eq_getElem (by rw [HA'.out.len];exact hkq)⟩
     obtain ⟨g,rfl,hg,kc⟩:=HA'.out.cells hx
     have HXX:=hid hx
     have HRX:=hid (HA'.out.recs x (List.mem_of_getElem? hx))
     obtain ⟨⟨y,ya,r1⟩,⟨L1,a1,b1⟩,⟨B1,d1,e1⟩⟩:=x
     dsimp only at HRX
     have HKC:=hid kc
     have HCL:=hid (show ∀ w',Grows wr w'→w'.cell? { block:=g,off:=k*9 }=some (.int .i64 y) from fun w' hC=>HKC.out w' hC 0 (by omega))
     have HBW:=hid (fun w' (hC:Grows wr w')=>box15 (hC.whole HB'.out))
     obtain ⟨hb,hbe⟩:∃ b,decide (y∈ds)=b:=⟨_,rfl⟩
     have HHS:=hid (show ∀ w',Grows wr w'→Calls Tryz.prog 41 #[.slice SA sn sc,.int .i64 y] w' fun e w''=>e=.returned (.bool hb)∧Grows w' w'' from fun w' hC=>by
      have h:=Zog SA sn sc ds y w' (HSG.out.1.grow (Grows.trans HI'.out.low hC)).row (by have h1:=len15 HOS.out;have h2:=HGR.out;have h3:=HSG.out.1.len;unfold Zdi at h1;rw [HSG.out.2.2] at h1;omega)
      rw [hbe] at h
      exact h)
     have HFN:=hid (show (st.take (k+1)).filter (fun p=>!decide (p.1.1∈ds))=st'++if hb then [] else [((y,ya,r1),((L1,a1,b1),(B1,d1,e1)))] by
      rw [List.take_add_one,HXX.out,List.filter_append,←HF'.out]
      simp only [Option.toList_some,List.filter_cons,List.filter_nil,hbe]
      cases hb <;> rfl)
     clear hx kc hbe hkq
     go_wp2_with (fail)
     refine Zg (E:=Grows) [Za (.pointer (some ⟨wa.heap.size,10,none⟩)),Za (.slice SA sn sc),Za (.slice (some ⟨g,0,none⟩) q c),Za (.int .i64 (k:Nat)),Za (.pointer (some ⟨g,k*9,none⟩)),Za (.pointer (some ⟨g,k*9,none⟩)),Za (.int .i64 y),Za (.bool hb),Za (.bool (!hb))] (by kernel_rfl) (by kernel_rfl) (fun _ _ _=>Grows.trans) (Ze _) ?_
     refine f_val _ (by rfl) ?_ ?_
     ·intro w' hC;clear hC;go_simp
     simp only [Pu]
     refine f_val _ (by rfl) ?_ ?_
     ·intro w' hC;obtain ⟨b0,b1,b2,b3,b4,b5,b6,b7,b8,b9,b10,b11,b12⟩:=HBW.out w' hC;clear hC;go_simp
     simp only [Pu]
     iterate 4
      refine f_val _ (by rfl) ?_ ?_
      ·intro w' hC;clear hC;go_simp
      simp only [Pu]
     refine f_val _ (by rfl) ?_ ?_
     ·intro w' hC;have c0:=HCL.out w' hC;clear hC;go_simp
     simp only [Pu]
     refine Zv 41 #[.slice SA sn sc,.int .i64 y] (.bool hb) (by rfl) (by intro w' hC;clear hC;go_simp) ?_ ?_
     ·intro w' hC hks;exact (HHS.out w' hC).mono fun e w'' hh=>⟨hh.1,hh.2⟩
     simp only [Pu]
     refine f_val _ (by rfl) ?_ ?_
     ·intro w' hC;clear hC;go_simp
     simp only [Pu]
     refine Zs ?_
     intro w9 hC hks
     have HCw9:=hid hC
     clear hC hks
     have HG9:=hid HCw9.out
     cases hb with
     | true =>
       go_wp2_with (fail)
       exact ⟨⟨k+1,A',q',c',st',out',HKQ.out,by have:=HK'.out;omega,rfl,rfl,hid (HI'.out.grow HG9.out),hid (HA'.out.grow HG9.out),hid (HG9.out.whole HB'.out),hid (Nat.le_trans HZ'.out HG9.out.size),hid (HL'.out.grow HG9.out),hid (by rw [HFN.out];simp)⟩,Yf HKQ.out⟩
     | false =>
       obtain ⟨s1,hs1⟩:∃ s:ByteArray,(⟨r1.key.toArray⟩:ByteArray)=s:=⟨_,rfl⟩
       have hcx:=fun t (ht:t < 9)=>HKC.out w9 HG9.out t ht
       have x0:w9.cell? { block:=g,off:=k*9 }=some (.int .i64 y):=hcx 0 (by omega)
       have x1:w9.cell? { block:=g,off:=k*9+1 }=some (.int .i64 ya):=hcx 1 (by omega)
       have x2:w9.cell? { block:=g,off:=k*9+2 }=some (.int .i64 r1.kind):=hcx 2 (by omega)
       have x3:w9.cell? { block:=g,off:=k*9+3 }=some (.string ⟨r1.key.toArray⟩):=hcx 3 (by omega)
       have x4:w9.cell? { block:=g,off:=k*9+4 }=some (.int .i64 r1.id):=hcx 4 (by omega)
       have x5:w9.cell? { block:=g,off:=k*9+5 }=some (.int .i64 r1.no):=hcx 5 (by omega)
       have x6:w9.cell? { block:=g,off:=k*9+6 }=some (.int .i64 r1.size):=hcx 6 (by omega)
       have x7:w9.cell? { block:=g,off:=k*9+7 }=some (.slice L1 a1 b1):=hcx 7 (by omega)
       have x8:w9.cell? { block:=g,off:=k*9+8 }=some (.slice B1 d1 e1):=hcx 8 (by omega)
       rw [hs1] at x3
       have HSE:=hid (show stE ((y,ya,r1),((L1,a1,b1),(B1,d1,e1)))=[.int .i64 y,.int .i64 ya,.int .i64 r1.kind,.string s1,.int .i64 r1.id,.int .i64 r1.no,.int .i64 r1.size,.slice L1 a1 b1,.slice B1 d1 e1] by rw [←hs1];rfl)
       obtain ⟨wm,hwm⟩:∃ z,w9.alloc (.cells #[.int .i64 y,.int .i64 ya,.int .i64 r1.kind,.string s1,.int .i64 r1.id,.int .i64 r1.no,.int .i64 r1.size,.slice L1 a1 b1,.slice B1 d1 e1] 64)=z:=⟨_,rfl⟩
       have hgm:Grows w9 wm:=by rw [←hwm];exact Zb _ _
       have hmm:Whole wm w9.heap.size 64 (stE ((y,ya,r1),((L1,a1,b1),(B1,d1,e1)))).toArray:=by rw [HSE.out,←hwm];exact Whole.made _ _ _
       have HMM:=hid (Zt6 hmm)
       have HGM:=hid (Grows.trans HG9.out hgm)
       have HIM:=hid (HI'.out.grow HGM.out)
       have HLM':=hid (HL'.out.grow HGM.out)
       have HAM:=hid (HA'.out.grow HGM.out)
       have HBM:=hid (HGM.out.whole HB'.out)
       have HWM:=hid hwm
       clear hcx hgm hmm hs1 hwm
       go_wp2_with (first
        | rw [HWM.out]
        | (at_builtin
           refine Zap rfl (.tmp 102) (.tmp 107) 59 rfl w5.heap.size 64 i1 (.agg #[.int .i64 0,.int .i64 0,.int .i64 0,.string ⟨#[]⟩,.int .i64 0,.int .i64 0,.int .i64 0,.slice none 0 0,.slice none 0 0]) 9 112 Tryz.underlying59 HI1.out.1 HI1.out.2.1 HI1.out.2.2.1 HI1.out.2.2.2 rfl (by decide) rfl
            HLM'.out.own.own rfl HMM.out (fun h=>by cases h) (Zlm _) (q'+1) rfl (by unfold maxLen;have:=HK'.out;omega) (by have:=HK'.out;omega) (Nat.le_trans HZ'.out HGM.out.size) ?_
           intro A9 c9 w10 hown9 hgrow9 hat9
           have HO9:=hid (And.intro hown9 (And.intro hgrow9 hat9))
           clear hown9 hgrow9 hat9)
        | fail)
       obtain ⟨hown9,hgrow9,hat9⟩:=HO9.out
       have hrow:∀ g,(Value.slice A' q' c').ownBlock=some g→w5.heap.size≤g:=HLM'.out.own.low
       have hle:q'+1≤k+1:=by have:=HK'.out;omega
       have hfin:=Yf HKQ.out
       have c1:=hid (HIM.out.grown hgrow9 HLM'.out.own.mine fun g e=>Nat.le_trans H5.out.size (hrow g e))
       have c2:=hid ((HAM.out.beside (b:=w5.heap.size) hgrow9 hrow fun g2 e=>(HA5.out.own.own.lt g2 e).2).wider (out':=fun k=>out' k∨(wm.heap.size≤k∧k < w10.heap.size)) fun k hk=>.inl hk)
       have c3:=hid (Nat.le_trans (Nat.le_trans HZ'.out HGM.out.size) hgrow9.size)
       refine ⟨⟨k+1,A9,q'+1,c9,st'++[((y,ya,r1),((L1,a1,b1),(B1,d1,e1)))],(fun k=>out' k∨(wm.heap.size≤k∧k < w10.heap.size)),?_⟩,?_⟩
       rotate_left 1
       ·exact hfin
       refine ⟨HKQ.out,hle,?_⟩
       refine ⟨rfl,rfl,?_⟩
       refine ⟨c1,c2,?_⟩
       refine ⟨hid ?_,c3,hid ⟨?_,?_,?_⟩,hid (by rw [HFN.out];rfl)⟩
       ·have hlt:=HBM.out.lt
        exact HBM.out.same (hgrow9.block _ hlt fun e=>by have:=hrow _ e.symm;have:=HBX5.out.lt;omega)
       ·rw [List.flatMap_append,List.flatMap_cons,List.flatMap_nil,List.append_nil]
        exact HLM'.out.own.snoc hown9 hat9 (fun hv=>.inr ⟨Nat.le_refl _,hv⟩) fun k hk=>.inl hk
       ·rw [List.length_append,HL'.out.len];rfl
       ·intro p hp
        rcases List.mem_append.1 hp with hp | hp
        ·exact HL'.out.recs p hp
        ·rw [List.mem_singleton.1 hp];exact HRX.out
   have g7:(k0==7)=false:=by rw [beq_eq_false_iff_ne];exact h7
   clear h5 h6 h8 h10 h7
   obtain ⟨b0',hb0'⟩:∃ b,(k0==0)=b:=⟨_,rfl⟩
   obtain ⟨b1',hb1'⟩:∃ b,(k0==1)=b:=⟨_,rfl⟩
   obtain ⟨b2',hb2'⟩:∃ b,(k0==2)=b:=⟨_,rfl⟩
   obtain ⟨b3',hb3'⟩:∃ b,(k0==3)=b:=⟨_,rfl⟩
   go_upto_if 110 with (first | rw [HW1.out] | fail)
   go_cut [110] from 111 to 114 (fun vp wx=>vp=.bool (b0' || b1' || b2' || b3')∧Hid (wx=W1))
   case first =>
    cases b0' with
    | true =>
      go_wp2_with (fail)
      go_meet
      exact ⟨rfl,hid rfl⟩
    | false =>
      cases b1' with
      | true =>
        go_wp2_with (fail)
        go_meet
        exact ⟨rfl,hid rfl⟩
      | false =>
        cases b2' with
        | true =>
          go_wp2_with (fail)
          go_meet
          exact ⟨rfl,hid rfl⟩
        | false =>
          go_wp2_with (fail)
          go_meet
          exact ⟨rfl,hid rfl⟩
   case rest =>
    obtain ⟨rfl,hwc⟩:=hcut
    have hwc2:=hwc.out
    rw [hwc2]
    clear hwc hwc2 wc hb0' hb1' hb2' hb3' g5 g6 g8 g10 g7
    obtain ⟨bc,hbc⟩:∃ b,(b0' || b1' || b2' || b3')=b:=⟨_,rfl⟩
    rw [hbc]
    clear hbc b0' b1' b2' b3'
    cases bc with
    | true =>
      obtain ⟨rs2,t1,t2,t3,t4,t5⟩:=HT.out.ladd o.x
      have HT2:=hid (t1.mono (T':=700*(j+1)) (N':=3*(j+1)) (Z':=j+1) (by omega) (by omega) (by omega))
      have HLM2:=hid (t4.trans HLM.out)
      have HST2:=hid (show ST (laddP L o.x).1 rs2 (st.map (·.1)) from HST.out.after t2)
      have hadd:=Zhj o.x LA ln lc BA bn bc W1 (fun w' hb=>HIN.out.grow hb) HAT.out HT.out.r HT.out.ok (by have:=HK.out;omega) (by omega) (fun _=>by omega)
      rw [HEQ.out.1,HEQ.out.2.1,HEQ.out.2.2.1,HEQ.out.2.2.2.1,HEQ.out.2.2.2.2] at hadd
      have HC:=hid hadd
      obtain ⟨⟨L5,⟨g1,g2,g3,g4⟩⟩,hL5⟩:∃ y,laddP L o.x=y:=⟨_,rfl⟩
      rw [hL5] at HC HT2 HLM2 HST2 t5
      dsimp only at t5
      have HPU:=hid t5
      clear hadd hL5 t1 t2 t3 t4 t5
      go_wp2_with (first | rw [HW1.out] | fail)
      refine HC.out.mono ?_
      rintro e w5 ⟨rfl,h5,st5⟩
      have H5:=hid (show LgIn w.heap.size w w5 d l out2 L5 from h5)
      have HA5:=hid (HA1.out.stays st5)
      have HBX5:=hid (Zo st5 HBX.out HOB.out)
      clear h5 st5 HC b0 b1 b2 b3 b4 b5 b6 b7 b8 b9 b10 b11 b12 q0 q1 q2 q3 q4 q5 q6 q7 q8 q9 q10 q11 q12
      by_cases hv:g4=0
      rotate_left 1
      ·have hv':(g4==0)=false:=by rw [beq_eq_false_iff_ne];exact hv
       clear hv
       go_wp2_with (fail)
       exact ⟨⟨j+1,L5,A,q,c,st,rs2,out2,HLT.out,by have:=HK.out;omega,rfl,rfl,H5,HT2,HLM2,HST2,HA5⟩,Yf HLT.out⟩
      subst hv
      have HP:=hid (HPU.out rfl)
      have HST3:=hid (show ST L5 rs2 ((st++[((g1,g2,o.x),((LA,ln,lc),(BA,bn,bc)))]).map (·.1)) by
       rw [List.map_append]
       exact HST2.out.put HT2.out HP.out)
      have HSE:=hid (show stE ((g1,g2,o.x),((LA,ln,lc),(BA,bn,bc)))=[.int .i64 g1,.int .i64 g2,.int .i64 kk,.string s,.int .i64 i0,.int .i64 n9,.int .i64 z0,.slice LA ln lc,.slice BA bn bc] by
       unfold stE
       dsimp only
       rw [HEQ.out.1,HEQ.out.2.1,HEQ.out.2.2.1,HEQ.out.2.2.2.1,HEQ.out.2.2.2.2])
      obtain ⟨wm,hwm⟩:∃ z,w5.alloc (.cells #[.int .i64 g1,.int .i64 g2,.int .i64 kk,.string s,.int .i64 i0,.int .i64 n9,.int .i64 z0,.slice LA ln lc,.slice BA bn bc] 64)=z:=⟨_,rfl⟩
      have hgm:Grows w5 wm:=by rw [←hwm];exact Zb _ _
      have hmm:Whole wm w5.heap.size 64 (stE ((g1,g2,o.x),((LA,ln,lc),(BA,bn,bc)))).toArray:=by rw [HSE.out,←hwm];exact Whole.made _ _ _
      have HMM:=hid (Zt6 hmm)
      have HIM:=hid (H5.out.grow hgm)
      have HAM:=hid (HA5.out.grow hgm)
      have HBM:=hid (hgm.whole HBX5.out)
      have HWM:=hid hwm
      obtain ⟨b0,b1,b2,b3,b4,b5,b6,b7,b8,b9,b10,b11,b12⟩:=box15 HBX5.out
      have HRT:=hid (show ∀ w',Below w.heap.size w w'→Calls Tryz.prog 43 #[.agg #[.int .i64 kk,.string s,.int .i64 i0,.int .i64 n9,.int .i64 z0,.slice LA ln lc,.slice BA bn bc]] w' fun e w''=>e=.returned (.bool true)∧Grows w' w'' from fun w' hg=>by
       have h:=Zke o.x.kind o.x.key o.x.id o.x.no o.x.size LA ln lc BA bn bc o.x.locs o.x.b w' (HIN.out.grow hg)
       rw [show (⟨o.x.kind,o.x.key,o.x.id,o.x.no,o.x.size,o.x.locs,o.x.b⟩:Rc)=o.x from rfl,decide_eq_true HP.out.right,HEQ.out.1,HEQ.out.2.1,HEQ.out.2.2.1,HEQ.out.2.2.2.1,HEQ.out.2.2.2.2] at h
       exact h)
      have hsz:=HP.out.size
      have hfit:=HP.out.fits
      dsimp only at hsz hfit
      rw [HLM.out] at hfit
      have hsum:IntKind.i64.wrap (g2+g3)=g2+g3:=IntWalk.i64_in _ (by omega)
      have HFT:=hid (And.intro hfit hsz)
      have HNA:=hid (show ∀ k,(Value.slice A q c).ownBlock=some k→k < wa.heap.size from fun k e=>(HA.out.own.own.lt k e).2)
      clear hgm hmm hwm hfit hsz
      by_cases h13:g2=13
      ·have hne:(g2 != 13)=false:=by rw [bne_eq_false_iff_eq];exact h13
       clear h13
       go_upto_region 39 with (first
        | rw [HWM.out]
        | (at_builtin
           refine Zap rfl (.tmp 126) (.tmp 132) 59 rfl w.heap.size 64 i1 (.agg #[.int .i64 0,.int .i64 0,.int .i64 0,.string ⟨#[]⟩,.int .i64 0,.int .i64 0,.int .i64 0,.slice none 0 0,.slice none 0 0]) 9 112 Tryz.underlying59 HI1.out.1 HI1.out.2.1 HI1.out.2.2.1 HI1.out.2.2.2 rfl (by decide) rfl
            HAM.out.own.own rfl HMM.out (fun h=>by cases h) (Zlm _) (q+1) rfl (by unfold maxLen;have:=HK.out;omega) (by have:=HK.out;omega) HIM.out.size ?_
           intro A9 c9 w10 hown9 hgrow9 hat9
           have HO9:=hid (And.intro hown9 (And.intro hgrow9 hat9))
           clear hown9 hgrow9 hat9)
        | fail)
       obtain ⟨hown9,hgrow9,hat9⟩:=HO9.out
       have HI9:=hid (HIM.out.grown hgrow9 HAM.out.own.mine HAM.out.own.low)
       have HBW:=hid (show ∀ w',Grows w10 w'→_ from fun w' hC=>box15 (hC.whole (show Whole w10 wa.heap.size 43 #[.int .i64 k0,.int .i64 kk,.string s,.int .i64 i0,.int .i64 n9,.int .i64 z0,.slice LA ln lc,.slice BA bn bc,.int .i64 nn,.int .i64 aa,.slice SA sn sc,.slice IA im ic,.int .u32 bb] from HBM.out.same (hgrow9.block _ HBM.out.lt fun e=>by have:=HNA.out _ e.symm;omega))))
       have HA9:=hid (show AllS w.heap.size w w10 (fun k=>out2 k∨(wm.heap.size≤k∧k < w10.heap.size)) A9 (q+1) c9 (st++[((g1,g2,o.x),((LA,ln,lc),(BA,bn,bc)))]) from ⟨by
        rw [List.flatMap_append,List.flatMap_cons,List.flatMap_nil,List.append_nil]
        exact HAM.out.own.snoc hown9 hat9 (fun hv=>.inr ⟨Nat.le_refl _,hv⟩) fun k hk=>.inl hk,by rw [List.length_append,HA5.out.len];rfl,fun p hp=>by
        rcases List.mem_append.1 hp with hp | hp
        ·exact HA5.out.recs p hp
        ·rw [List.mem_singleton.1 hp];exact HIN.out⟩)
       clear hown9 hgrow9 hat9 b0 b1 b2 b3 b4 b5 b6 b7 b8 b9 b10 b11 b12
       refine Zb6 (E:=Grows) [Za (.int .i64 g2),Za (.bool false),Za (.bool false),Za undef,Za undef,Za undef,Za undef,Za undef,Za (.bool false),Za (.bool false),Za (.pointer (some ⟨wa.heap.size,1,none⟩)),Za (.agg #[.int .i64 kk,.string s,.int .i64 i0,.int .i64 n9,.int .i64 z0,.slice LA ln lc,.slice BA bn bc]),Za (.bool true),Za (.bool false),Za (.bool false)] (fun _ _ _=>Grows.trans) (Grows.refl _) ?_
       iterate 3
        refine f_val _ (by rfl) ?_ ?_
        ·intro w' hC;clear hC;go_simp
        simp only [Pu]
       iterate 5
        refine Zbc (by rfl) ?_
        simp only [Pu]
       iterate 3
        refine f_val _ (by rfl) ?_ ?_
        ·intro w' hC;clear hC;go_simp
        simp only [Pu]
       refine f_val _ (by rfl) ?_ ?_
       ·intro w' hC;obtain ⟨b0,b1,b2,b3,b4,b5,b6,b7,b8,b9,b10,b11,b12⟩:=HBW.out w' hC;clear hC;go_simp
       simp only [Pu]
       refine Zv 43 #[.agg #[.int .i64 kk,.string s,.int .i64 i0,.int .i64 n9,.int .i64 z0,.slice LA ln lc,.slice BA bn bc]] (.bool true) (by rfl) (by intro w' hC;clear hC;go_simp) ?_ ?_
       ·intro w' hC hks;exact (HRT.out w' (HI9.out.grow hC).low).mono fun e w'' hh=>⟨hh.1,hh.2⟩
       simp only [Pu]
       iterate 2
        refine f_val _ (by rfl) ?_ ?_
        ·intro w' hC;clear hC;go_simp
        simp only [Pu]
       refine Zs ?_
       intro w11 hC hks
       have HCw11:=hid hC
       clear hC hks
       have HI11:=hid (HI9.out.grow HCw11.out)
       have HA11:=hid (HA9.out.grow HCw11.out)
       go_wp2_with (fail)
       have hle:q+1≤j+1:=by have:=HK.out;omega
       have hfin:=Yf HLT.out
       refine ⟨⟨j+1,L5,A9,q+1,c9,st++[((g1,g2,o.x),((LA,ln,lc),(BA,bn,bc)))],rs2,(fun k=>out2 k∨(wm.heap.size≤k∧k < w10.heap.size)),?_⟩,?_⟩
       rotate_left 1
       ·exact hfin
       refine ⟨HLT.out,hle,?_⟩
       refine ⟨rfl,rfl,?_⟩
       refine ⟨HI11,HT2,?_⟩
       exact ⟨HLM2,HST3,HA11⟩
      ·have hne:(g2 != 13)=true:=by rw [bne_iff_ne];exact h13
       have hgt:¬ g2+g3 > lim:=by have:=HFT.out.1.resolve_left h13;omega
       clear h13
       go_upto_region 39 with (first
        | rw [HWM.out]
        | (at_builtin
           refine Zap rfl (.tmp 126) (.tmp 132) 59 rfl w.heap.size 64 i1 (.agg #[.int .i64 0,.int .i64 0,.int .i64 0,.string ⟨#[]⟩,.int .i64 0,.int .i64 0,.int .i64 0,.slice none 0 0,.slice none 0 0]) 9 112 Tryz.underlying59 HI1.out.1 HI1.out.2.1 HI1.out.2.2.1 HI1.out.2.2.2 rfl (by decide) rfl
            HAM.out.own.own rfl HMM.out (fun h=>by cases h) (Zlm _) (q+1) rfl (by unfold maxLen;have:=HK.out;omega) (by have:=HK.out;omega) HIM.out.size ?_
           intro A9 c9 w10 hown9 hgrow9 hat9
           have HO9:=hid (And.intro hown9 (And.intro hgrow9 hat9))
           clear hown9 hgrow9 hat9)
        | fail)
       obtain ⟨hown9,hgrow9,hat9⟩:=HO9.out
       have HI9:=hid (HIM.out.grown hgrow9 HAM.out.own.mine HAM.out.own.low)
       have HBW:=hid (show ∀ w',Grows w10 w'→_ from fun w' hC=>box15 (hC.whole (show Whole w10 wa.heap.size 43 #[.int .i64 k0,.int .i64 kk,.string s,.int .i64 i0,.int .i64 n9,.int .i64 z0,.slice LA ln lc,.slice BA bn bc,.int .i64 nn,.int .i64 aa,.slice SA sn sc,.slice IA im ic,.int .u32 bb] from HBM.out.same (hgrow9.block _ HBM.out.lt fun e=>by have:=HNA.out _ e.symm;omega))))
       have HA9:=hid (show AllS w.heap.size w w10 (fun k=>out2 k∨(wm.heap.size≤k∧k < w10.heap.size)) A9 (q+1) c9 (st++[((g1,g2,o.x),((LA,ln,lc),(BA,bn,bc)))]) from ⟨by
        rw [List.flatMap_append,List.flatMap_cons,List.flatMap_nil,List.append_nil]
        exact HAM.out.own.snoc hown9 hat9 (fun hv=>.inr ⟨Nat.le_refl _,hv⟩) fun k hk=>.inl hk,by rw [List.length_append,HA5.out.len];rfl,fun p hp=>by
        rcases List.mem_append.1 hp with hp | hp
        ·exact HA5.out.recs p hp
        ·rw [List.mem_singleton.1 hp];exact HIN.out⟩)
       clear hown9 hgrow9 hat9 b0 b1 b2 b3 b4 b5 b6 b7 b8 b9 b10 b11 b12
       refine Zb6 (E:=Grows) [Za (.int .i64 g2),Za (.bool true),Za (.bool true),Za (.int .i64 g2),Za (.int .i64 g3),Za (.int .i64 (g2+g3)),Za (.int .i64 lim),Za (.bool false),Za (.bool false),Za (.bool false),Za (.pointer (some ⟨wa.heap.size,1,none⟩)),Za (.agg #[.int .i64 kk,.string s,.int .i64 i0,.int .i64 n9,.int .i64 z0,.slice LA ln lc,.slice BA bn bc]),Za (.bool true),Za (.bool false),Za (.bool false)] (fun _ _ _=>Grows.trans) (Grows.refl _) ?_
       iterate 11
        refine f_val _ (by rfl) ?_ ?_
        ·intro w' hC;clear hC;go_simp
        simp only [Pu]
       refine f_val _ (by rfl) ?_ ?_
       ·intro w' hC;obtain ⟨b0,b1,b2,b3,b4,b5,b6,b7,b8,b9,b10,b11,b12⟩:=HBW.out w' hC;clear hC;go_simp
       simp only [Pu]
       refine Zv 43 #[.agg #[.int .i64 kk,.string s,.int .i64 i0,.int .i64 n9,.int .i64 z0,.slice LA ln lc,.slice BA bn bc]] (.bool true) (by rfl) (by intro w' hC;clear hC;go_simp) ?_ ?_
       ·intro w' hC hks;exact (HRT.out w' (HI9.out.grow hC).low).mono fun e w'' hh=>⟨hh.1,hh.2⟩
       simp only [Pu]
       iterate 2
        refine f_val _ (by rfl) ?_ ?_
        ·intro w' hC;clear hC;go_simp
        simp only [Pu]
       refine Zs ?_
       intro w11 hC hks
       have HCw11:=hid hC
       clear hC hks
       have HI11:=hid (HI9.out.grow HCw11.out)
       have HA11:=hid (HA9.out.grow HCw11.out)
       go_wp2_with (fail)
       have hle:q+1≤j+1:=by have:=HK.out;omega
       have hfin:=Yf HLT.out
       refine ⟨⟨j+1,L5,A9,q+1,c9,st++[((g1,g2,o.x),((LA,ln,lc),(BA,bn,bc)))],rs2,(fun k=>out2 k∨(wm.heap.size≤k∧k < w10.heap.size)),?_⟩,?_⟩
       rotate_left 1
       ·exact hfin
       refine ⟨HLT.out,hle,?_⟩
       refine ⟨rfl,rfl,?_⟩
       refine ⟨HI11,HT2,?_⟩
       exact ⟨HLM2,HST3,HA11⟩
    | false =>
      go_wp2_with (first | rw [HW1.out] | fail)
      exact ⟨⟨j+1,L,A,q,c,st,rs,out2,HLT.out,by have:=HK.out;omega,rfl,rfl,H1,hid (HT.out.mono (by have:=HK.out;omega) (by omega) (by omega)),HLM,HST,HA1⟩,Yf HLT.out⟩
  obtain rfl:j=n0:=by omega
  have hlt':¬ ((j:Int) < (j:Int)):=by omega
  have HK:=hid (show j≤100∧q≤j by omega)
  obtain ⟨wb,rfl⟩:∃ x,x=wr:=⟨_,rfl⟩
  obtain ⟨A1,n1,c1,hat⟩:=HI.out
  have HAT:=hid hat
  clear hat hlt
  go_wp2_with (fail)
  go_loopw [19] (fun vi wx=>∃ (k:Nat),k≤q∧vi=.int .i64 (k:Nat)∧Hid (Grows wb wx)) (fun i _=>q - (intOf i).toNat)
  case atStart=>exact ⟨0,Nat.zero_le _,rfl,hid (Grows.refl _)⟩
  case round =>
   obtain ⟨k,hk,rfl,HG⟩:=hrel
   by_cases hkq:k < q
   rotate_left 1
   ·obtain rfl:k=q:=by omega
    have hkq':¬ ((k:Int) < (k:Int)):=by omega
    go_wp2_with (fail)
    go_ret
    exact ⟨rfl,(HI.out.grow HG.out).low⟩
   have hkq':(k:Int) < (q:Int):=by omega
   have hk0:(0:Int)≤(k:Int):=by omega
   have ek:IntKind.i64.wrap ((k:Int)+1)=(k:Int)+1:=IntWalk.i64_in _ ⟨by omega,by have:=HK.out;omega⟩
   have HKQ:=hid hkq
   obtain ⟨x,hx⟩:∃ x,st[k]?=some x:=⟨_,List.getElem?_eq_getElem (by rw [HA.out.len];exact hkq)⟩
   obtain ⟨g,rfl,hg,kc⟩:=HA.out.cells hx
   have HXX:=hid hx
   have hmem:x.1∈st.map (·.1):=List.mem_map.2 ⟨x,List.mem_of_getElem? hx,rfl⟩
   have HRX:=hid (HA.out.recs x (List.mem_of_getElem? hx))
   have hgt:=HST.out.get HT.out hmem
   have hlo:=HST.out.low HT.out hmem
   have HLL:=hid (show x.1.2.2.locs.length≤1000000 from by
    obtain ⟨h1,us,bs,h2,h3⟩:=HST.out.there _ hmem
    exact Zru ((HT.out.segs _ h1).2 _ (by rw [h2];exact List.mem_append_right _ (List.mem_cons_self ..))))
   have HPV:=hid (show 0 < k→∃ y':Int,(∀ w',Grows wb w'→w'.cell? { block:=g,off:=(k - 1)*9 }=some (.int .i64 y'))∧y'≤x.1.1 from fun h0=>by
    obtain ⟨z,hz⟩:∃ z,st[k - 1]?=some z:=⟨_,List.getElem?_eq_getElem (by rw [HA.out.len];omega)⟩
    obtain ⟨g',hgg,_,kz⟩:=HA.out.cells hz
    injection hgg with hgg
    injection hgg with hgg _ _
    subst hgg
    refine ⟨z.1.1,fun w' hC=>kz w' hC 0 (by omega),?_⟩
    have hs:=HST.out.sorted
    rw [List.pairwise_iff_getElem] at hs
    obtain ⟨hi1,e1⟩:=List.getElem?_eq_some_iff.1 hz
    obtain ⟨hi2,e2⟩:=List.getElem?_eq_some_iff.1 hx
    have:=hs (k - 1) k (by rw [List.length_map];exact hi1) (by rw [List.length_map];exact hi2) (by omega)
    rw [List.getElem_map,List.getElem_map,e1,e2] at this
    exact this)
   obtain ⟨⟨y,ya,r1⟩,⟨L1,a1,b1⟩,⟨B1,d1,e1⟩⟩:=x
   dsimp only at HRX hgt hlo HPV HLL
   have HGET:=hid (show ∀ w',Grows wb w'→Calls Tryz.prog 44 #[.pointer (some ⟨l,0,none⟩),.int .i64 y,.int .i64 ya] w' (GetTo w' (r1,0)) from fun w' hC=>by
    have h:=Zhl y ya ⟨by omega,by omega⟩ w' (HAT.out.grow hC) HT.out.r HT.out.ok.ok (by have:=HK.out;omega)
    rw [hgt] at h
    exact h)
   have HC2:=hid (show ∀ w',Grows wb w'→w'.cell? { block:=g,off:=k*9 }=some (.int .i64 y)∧w'.cell? { block:=g,off:=k*9+1 }=some (.int .i64 ya) from fun w' hC=>⟨kc w' hC 0 (by omega),kc w' hC 1 (by omega)⟩)
   have HKC:=hid kc
   have hbl:g < wr.heap.size:=Nat.lt_of_lt_of_le hg HG.out.size
   obtain ⟨x0,x1⟩:=HC2.out wr HG.out
   clear hx kc hmem hgt hlo hg hkq
   go_wp2_with (fail)
   go_cut [20,21] from 149 to 199 (fun vp ve wx=>∃ (g2:Nat) (LA:Option Addr) (ln lc:Nat) (BA:Option Addr) (bn bc:Nat),vp=.pointer (some ⟨g2,0,none⟩)∧ve=.int .i64 0∧Hid (Whole wx g2 39 #[.int .i64 r1.kind,.string ⟨r1.key.toArray⟩,.int .i64 r1.id,.int .i64 r1.no,.int .i64 r1.size,.slice LA ln lc,.slice BA bn bc])∧Hid (RcIn wx LA ln lc BA bn bc r1)∧Hid (Grows wr wx))
   case first =>
    have HMZ:=hid (Whole.made wr 39 #[.int .i64 0,.string ⟨#[]⟩,.int .i64 0,.int .i64 0,.int .i64 0,.slice none 0 0,.slice none 0 0])
    have HGZ:=hid (Zb wr (.cells #[.int .i64 0,.string ⟨#[]⟩,.int .i64 0,.int .i64 0,.int .i64 0,.slice none 0 0,.slice none 0 0] 39))
    go_region_with (first
     | (go_at_call 44
        refine (HGET.out _ (Grows.trans HG.out (Grows.trans HGZ.out (Ze _)))).mono ?_
        rintro e w5 ⟨LA,ln,lc,BA,bn,bc,rfl,hro,hg5⟩
        have HRO:=hid hro
        have HG5:=hid (Grows.trans HGZ.out (Grows.trans (Ze _) hg5))
        have HZ5:=hid (hg5.whole ((Ze _).whole HMZ.out))
        obtain ⟨z0,z1,z2,z3,z4,z5,z6⟩:=box7 HZ5.out
        have f0:=HZ5.out.free 0
        have f1:=HZ5.out.free 1
        have f2:=HZ5.out.free 2
        have f3:=HZ5.out.free 3
        have f4:=HZ5.out.free 4
        have f5:=HZ5.out.free 5
        have f6:=HZ5.out.free 6
        clear hro hg5
        unfold rcV)
     | (go_at_call 44
        refine (HGET.out _ (Grows.trans HG.out (Ze _))).mono ?_
        rintro e w5 ⟨LA,ln,lc,BA,bn,bc,rfl,hro,hg5⟩
        have HRO:=hid hro
        have HG5:=hid (Grows.trans (Ze _) hg5)
        clear hro hg5
        unfold rcV))
    all_goals first
     | (obtain ⟨W,hW,hwh,hwt⟩:=Y6 HZ5.out (.int .i64 r1.kind) (.string ⟨r1.key.toArray⟩) (.int .i64 r1.id) (.int .i64 r1.no) (.int .i64 r1.size) (.slice LA ln lc) (.slice BA bn bc)
        rw [hW]
        have HWH:=hid (And.intro hwh hwt)
        clear hW hwh hwt z0 z1 z2 z3 z4 z5 z6 f0 f1 f2 f3 f4 f5 f6 x0 x1
        simp only [List.getElem_toArray,List.getElem_cons_zero,List.getElem_cons_succ,Act.put,List.setIfInBounds_toArray,List.set_cons_zero,List.set_cons_succ]
        go_wp2_with (fail)
        go_meet
        exact ⟨wr.heap.size,LA,ln,lc,BA,bn,bc,rfl,rfl,hid HWH.out.1,hid (HRO.out.turn HWH.out.2 (by show wr.heap.size < (wr.alloc _).heap.size;rw [World.size_alloc];omega)).inn,hid (Below.trans HG5.out (HWH.out.2.below HG5.out.size))⟩)
     | (obtain ⟨W,hW⟩:∃ W,w5.alloc (.cells #[.int .i64 r1.kind,.string ⟨r1.key.toArray⟩,.int .i64 r1.id,.int .i64 r1.no,.int .i64 r1.size,.slice LA ln lc,.slice BA bn bc] 39)=W:=⟨_,rfl⟩
        have HWH:=hid hW
        rw [hW]
        clear hW x0 x1
        simp only [List.getElem_toArray,List.getElem_cons_zero,List.getElem_cons_succ,Act.put,List.setIfInBounds_toArray,List.set_cons_zero,List.set_cons_succ]
        go_wp2_with (fail)
        go_meet
        exact ⟨w5.heap.size,LA,ln,lc,BA,bn,bc,rfl,rfl,hid (by rw [←HWH.out];exact Whole.made _ _ _),hid (HRO.out.inn.grow (by rw [←HWH.out];exact Zb _ _)),hid (Grows.trans HG5.out (by rw [←HWH.out];exact Zb _ _))⟩)
   case rest =>
    obtain ⟨g2,LA,ln,lc,BA,bn,bc,rfl,rfl,HB2,HR2,HGC⟩:=hcut
    have HGB:=hid (Grows.trans HG.out HGC.out)
    have HSA:=hid (show ∀ w',Grows wc w'→Calls Tryz.prog 45 #[.agg #[.int .i64 r1.kind,.string ⟨r1.key.toArray⟩,.int .i64 r1.id,.int .i64 r1.no,.int .i64 r1.size,.slice LA ln lc,.slice BA bn bc],.agg #[.int .i64 r1.kind,.string ⟨r1.key.toArray⟩,.int .i64 r1.id,.int .i64 r1.no,.int .i64 r1.size,.slice L1 a1 b1,.slice B1 d1 e1]] w' fun e w''=>e=.returned (.bool true)∧Grows w' w'' from fun w' hC=>by
     have h:=Zmv r1 r1 LA ln lc BA bn bc L1 a1 b1 B1 d1 e1 w' (HR2.out.grow hC) (HRX.out.grow ((HI.out.grow (Grows.trans HGB.out hC)).low)) (by have:=HLL.out;rw [←HR2.out.locs.len];exact this)
     rw [decide_eq_true (p:=r1=r1) rfl] at h
     exact h)
    have HC6:=hid (fun w' (hC:Grows wc w')=>box7 (hC.whole HB2.out))
    have HC1:=hid (show ∀ w',Grows wc w'→w'.cell? { block:=g,off:=k*9 }=some (.int .i64 y)∧w'.cell? { block:=g,off:=k*9+1 }=some (.int .i64 ya)∧w'.cell? { block:=g,off:=k*9+2 }=some (.int .i64 r1.kind)∧w'.cell? { block:=g,off:=k*9+3 }=some (.string ⟨r1.key.toArray⟩)∧w'.cell? { block:=g,off:=k*9+4 }=some (.int .i64 r1.id)∧w'.cell? { block:=g,off:=k*9+5 }=some (.int .i64 r1.no)∧w'.cell? { block:=g,off:=k*9+6 }=some (.int .i64 r1.size)∧w'.cell? { block:=g,off:=k*9+7 }=some (.slice L1 a1 b1)∧w'.cell? { block:=g,off:=k*9+8 }=some (.slice B1 d1 e1) from fun w' hC=>by
     have key:=fun t (ht:t < 9)=>HKC.out w' (Grows.trans HGB.out hC) t ht
     exact ⟨key 0 (by omega),key 1 (by omega),key 2 (by omega),key 3 (by omega),key 4 (by omega),key 5 (by omega),key 6 (by omega),key 7 (by omega),key 8 (by omega)⟩)
    clear x0 x1
    by_cases hi0:k=0
    ·subst hi0
     have hq0:(0:Int) < (q:Int):=by have:=HKQ.out;omega
     have hqp:0 < q:=by have:=HKQ.out;omega
     simp only [Nat.zero_mul,Nat.zero_add] at HC1
     go_wp2_with (fail)
     refine Zg (E:=Grows) [Za (.int .i64 0),Za (.bool false),Za (.bool false),Za (.agg #[.int .i64 r1.kind,.string ⟨r1.key.toArray⟩,.int .i64 r1.id,.int .i64 r1.no,.int .i64 r1.size,.slice LA ln lc,.slice BA bn bc]),Za (.slice (some ⟨g,0,none⟩) q c),Za (.int .i64 0),Za (.pointer (some ⟨g,0,none⟩)),Za (.pointer (some ⟨g,2,none⟩)),Za (.agg #[.int .i64 r1.kind,.string ⟨r1.key.toArray⟩,.int .i64 r1.id,.int .i64 r1.no,.int .i64 r1.size,.slice L1 a1 b1,.slice B1 d1 e1]),Za (.bool true),Za (.bool false),Za (.bool false),Za (.bool false),Za (.int .i64 0),Za (.bool false),Za (.bool false),Za undef,Za undef,Za undef,Za undef,Za undef,Za undef,Za undef,Za undef,Za undef,Za undef,Za undef,Za undef,Za (.bool false),Za (.bool false)] (by kernel_rfl) (by kernel_rfl) (fun _ _ _=>Grows.trans) (Ze _) ?_
     iterate 3
      refine f_val _ (by rfl) ?_ ?_
      ·intro w' hC;clear hC;go_simp
      simp only [Pu]
     refine f_val _ (by rfl) ?_ ?_
     ·intro w' hC;obtain ⟨z0,z1,z2,z3,z4,z5,z6⟩:=HC6.out w' hC;clear hC;go_simp
     simp only [Pu]
     iterate 4
      refine f_val _ (by rfl) ?_ ?_
      ·intro w' hC;clear hC;go_simp
      simp only [Pu]
     refine f_val _ (by rfl) ?_ ?_
     ·intro w' hC;obtain ⟨z0,z1,z2,z3,z4,z5,z6,z7,z8⟩:=HC1.out w' hC;clear hC;go_simp
     simp only [Pu]
     refine Zv 45 #[.agg #[.int .i64 r1.kind,.string ⟨r1.key.toArray⟩,.int .i64 r1.id,.int .i64 r1.no,.int .i64 r1.size,.slice LA ln lc,.slice BA bn bc],.agg #[.int .i64 r1.kind,.string ⟨r1.key.toArray⟩,.int .i64 r1.id,.int .i64 r1.no,.int .i64 r1.size,.slice L1 a1 b1,.slice B1 d1 e1]] (.bool true) (by rfl) (by intro w' hC;clear hC;go_simp) ?_ ?_
     ·intro w' hC hks;exact (HSA.out w' hC).mono fun e w'' hh=>⟨hh.1,hh.2⟩
     simp only [Pu]
     iterate 6
      refine f_val _ (by rfl) ?_ ?_
      ·intro w' hC;clear hC;go_simp
      simp only [Pu]
     iterate 12
      refine Zbc (by rfl) ?_
      simp only [Pu]
     iterate 2
      refine f_val _ (by rfl) ?_ ?_
      ·intro w' hC;clear hC;go_simp
      simp only [Pu]
     refine Zs ?_
     intro w9 hC hks
     have HCw9:=hid hC
     clear hC hks
     go_wp2_with (fail)
     exact ⟨⟨0+1,HKQ.out,rfl,hid (Grows.trans HGB.out HCw9.out)⟩,Yf HKQ.out⟩
    ·obtain ⟨y',hc2,hyy⟩:=HPV.out (by omega)
     have HC3:=hid (fun w' (hC:Grows wc w')=>hc2 w' (Grows.trans HGB.out hC))
     have hip:(0:Int) < (k:Int):=by omega
     have hipn:0 < k:=by omega
     have him:IntKind.i64.wrap ((k:Int) - 1)=((k - 1:Nat):Int):=by rw [IntWalk.i64_in _ (by have:=HK.out;have:=HKQ.out;omega)];omega
     have hil:((k - 1:Nat):Int) < (q:Int):=by omega
     have hin0:(0:Int)≤((k - 1:Nat):Int):=by omega
     have hyl:¬ y < y':=by omega
     clear hc2 hyy
     go_wp2_with (fail)
     refine Zg (E:=Grows) [Za (.int .i64 0),Za (.bool false),Za (.bool false),Za (.agg #[.int .i64 r1.kind,.string ⟨r1.key.toArray⟩,.int .i64 r1.id,.int .i64 r1.no,.int .i64 r1.size,.slice LA ln lc,.slice BA bn bc]),Za (.slice (some ⟨g,0,none⟩) q c),Za (.int .i64 (k:Nat)),Za (.pointer (some ⟨g,k*9,none⟩)),Za (.pointer (some ⟨g,k*9+2,none⟩)),Za (.agg #[.int .i64 r1.kind,.string ⟨r1.key.toArray⟩,.int .i64 r1.id,.int .i64 r1.no,.int .i64 r1.size,.slice L1 a1 b1,.slice B1 d1 e1]),Za (.bool true),Za (.bool false),Za (.bool false),Za (.bool false),Za (.int .i64 (k:Nat)),Za (.bool true),Za (.bool true),Za (.slice (some ⟨g,0,none⟩) q c),Za (.int .i64 (k:Nat)),Za (.pointer (some ⟨g,k*9,none⟩)),Za (.pointer (some ⟨g,k*9,none⟩)),Za (.int .i64 y),Za (.slice (some ⟨g,0,none⟩) q c),Za (.int .i64 (k:Nat)),Za (.int .i64 ((k - 1:Nat):Int)),Za (.pointer (some ⟨g,(k - 1)*9,none⟩)),Za (.pointer (some ⟨g,(k - 1)*9,none⟩)),Za (.int .i64 y'),Za (.bool false),Za (.bool false),Za (.bool false)] (by kernel_rfl) (by kernel_rfl) (fun _ _ _=>Grows.trans) (Ze _) ?_
     iterate 3
      refine f_val _ (by rfl) ?_ ?_
      ·intro w' hC;clear hC;go_simp
      simp only [Pu]
     refine f_val _ (by rfl) ?_ ?_
     ·intro w' hC;obtain ⟨z0,z1,z2,z3,z4,z5,z6⟩:=HC6.out w' hC;clear hC;go_simp
     simp only [Pu]
     iterate 4
      refine f_val _ (by rfl) ?_ ?_
      ·intro w' hC;clear hC;go_simp
      simp only [Pu]
     refine f_val _ (by rfl) ?_ ?_
     ·intro w' hC;obtain ⟨z0,z1,z2,z3,z4,z5,z6,z7,z8⟩:=HC1.out w' hC;clear hC;go_simp
     simp only [Pu]
     refine Zv 45 #[.agg #[.int .i64 r1.kind,.string ⟨r1.key.toArray⟩,.int .i64 r1.id,.int .i64 r1.no,.int .i64 r1.size,.slice LA ln lc,.slice BA bn bc],.agg #[.int .i64 r1.kind,.string ⟨r1.key.toArray⟩,.int .i64 r1.id,.int .i64 r1.no,.int .i64 r1.size,.slice L1 a1 b1,.slice B1 d1 e1]] (.bool true) (by rfl) (by intro w' hC;clear hC;go_simp) ?_ ?_
     ·intro w' hC hks;exact (HSA.out w' hC).mono fun e w'' hh=>⟨hh.1,hh.2⟩
     simp only [Pu]
     iterate 10
      refine f_val _ (by rfl) ?_ ?_
      ·intro w' hC;clear hC;go_simp
      simp only [Pu]
     refine f_val _ (by rfl) ?_ ?_
     ·intro w' hC;obtain ⟨z0,z1,z2,z3,z4,z5,z6,z7,z8⟩:=HC1.out w' hC;clear hC;go_simp
     simp only [Pu]
     iterate 5
      refine f_val _ (by rfl) ?_ ?_
      ·intro w' hC;clear hC;go_simp
      simp only [Pu]
     refine f_val _ (by rfl) ?_ ?_
     ·intro w' hC;have z0:=HC3.out w' hC;clear hC;go_simp
     simp only [Pu]
     iterate 3
      refine f_val _ (by rfl) ?_ ?_
      ·intro w' hC;clear hC;go_simp
      simp only [Pu]
     refine Zs ?_
     intro w9 hC hks
     have HCw9:=hid hC
     clear hC hks
     go_wp2_with (fail)
     exact ⟨⟨k+1,HKQ.out,rfl,hid (Grows.trans HGB.out HCw9.out)⟩,Yf HKQ.out⟩

theorem logThere_lifted (os:Os) (started:os.Started) (H:Type) (enc:TypeId×Value→H) :
 ReturnsInHanded {} Tryz.checked os 4 .any (Rows.logThereSpec.pre6 enc Tryz.prog Tryz.f4 Rows.logThereRow.domain false) (Rows.logThereSpec.post enc Tryz.prog Tryz.f4 false true false false):=by
 refine Zr8 (C:=Tryz.checked) H enc own started (by kernel_rfl) Tryz.func4
  (ChangeSpec.witness6 (enc:=enc) (C:=Tryz.checked) false ⟨#[],#[.int .u16 0,.slice none 0 0],[]⟩ 16 (by kernel_rfl) (by kernel_rfl) (by kernel_rfl) (by kernel_rfl))
  laidOut (Zkp (by kernel_rfl)) rfl Tryz.underlying4 rfl (fun ds hd=>?_) (fun W base args ds p hval hA hsz=>?_)
 ·match ds,hd with
  | [d1,d2],_=>rfl
 ·rw [Tryz.params4] at hA hval hsz
  obtain ⟨v0,vs0,d0,ds0,p0,q0,hargs,rfl,rfl,h0,r0⟩:=trodAll_cons hA
  obtain ⟨v1,vs1,d1,ds1,p1,q1,rfl,rfl,rfl,h1,r1⟩:=trodAll_cons r0
  obtain ⟨rfl,rfl,rfl⟩:=trodAll_nil r1
  obtain rfl:args=#[v0,v1]:=by cases args;simp_all
  obtain ⟨a0,rfl,_,_,w0⟩:=open_int Tryz.underlying58 (hval 0 58 v0 rfl rfl) h0
  have b0:=bounds_u16 w0
  obtain ⟨A1,n1,c1,xs1,rfl,hx1⟩:=Zok (hval 1 22 v1 rfl rfl) h1 hsz (j:=1) rfl rfl
  exact Zis W a0 (by omega) A1 n1 c1 xs1 hx1

theorem logThere_re:(Rows.logThereRow.recurses==Tryz.pinned.checked.prog.recurses 4)=true:=by kernel_rfl
theorem logThere_un:(Rows.logThereRow.unfollowed==Tryz.pinned.checked.prog.unfollowed 4)=true:=by kernel_rfl
theorem logThere_in:(Rows.logThereRow.inPlace==Tryz.pinned.checked.prog.inPlace 4)=true:=by kernel_rfl
theorem logThere_na:(Rows.logThereRow.named==Tryz.pinned.checked.prog.varsNamed 4)=true:=by kernel_rfl
theorem logThere_closed:joinedFacts Tryz.pinned.checked.prog 4 Tryz.f4 Rows.logThereSpec Rows.logThereRow=true:=by
 unfold joinedFacts
 rw [logThere_re,logThere_un,logThere_in,logThere_na]
 kernel_rfl
theorem logThere_over:Rows.logThereRow.holds Tryz.pinned (OpenSpec.ofChange Rows.logThereSpec) :=
 OpenClaim.holds_of_wide 4 Tryz.f4 rfl rfl rfl rfl rfl rfl rfl ⟨rfl,rfl,rfl,rfl,rfl⟩ rfl rfl rfl rfl rfl (by kernel_rfl) Tryz.func4 logThere_closed
  (of_decide_eq_true (by kernel_rfl)) (by unfold Func.isWrapper;first | (rw [if_pos (by decide +kernel)];kernel_rfl) | (rw [if_neg (by decide +kernel)];exact ⟨rfl,rfl⟩))
  (fun os started H enc _=>logThere_lifted os started H enc)
theorem logThere_holds:Rows.LogThereSaid:=logThere_over
end Go.Proofs.YtkelafkbmnjpeaaGreat
