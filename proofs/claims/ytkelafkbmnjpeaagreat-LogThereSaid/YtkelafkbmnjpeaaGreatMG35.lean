/-
  Texts that the statements lean on, one behind the other.
-/
import Derived.Test.YtkelafkbmnjpeaaGreatMG33
import Derived.Test.YtkelafkbmnjpeaaGreatMG34
import Derived.Test.YtkelafkbmnjpeaaGreatMG32
import Derived.Test.YtkelafkbmnjpeaaGreatMG20
import Derived.Test.YtkelafkbmnjpeaaGreatMG26
import Derived.Test.YtkelafkbmnjpeaaGreatMG24
import Derived.KernelRfl
set_option linter.unusedSimpArgs false
set_option linter.unusedVariables false
set_option maxHeartbeats 16000000
set_option maxRecDepth 100000
namespace Go.Proofs.YtkelafkbmnjpeaaGreat
open Go.Lib (hid)
open Go.RowKit Go.Maps Go.WideMaps
section
variable {B d l n c T S K:Nat} {w0 w:World} {out:Nat→Prop} {A:Option Addr} {L:Lg}
theorem Ints.stays {w w':World} {A:Option Addr} {n c:Nat} {xs:List Int} (h:Ints w A n c xs) (hs:Stays B out w w') (hA:∀ ad,A=some ad→xs≠[]→ad.block < B∨out ad.block):Ints w' A n c xs :=
 ⟨⟨h.row.len,fun k v hv=>by
   obtain ⟨ad,e,hb,hcell⟩:=h.row.spot k v hv
   refine ⟨ad,e,Nat.lt_of_lt_of_le hb hs.size,?_⟩
   rw [←hcell]
   have hh:=hs.same ad.block hb fun e2=>by
    rcases hA ad e (fun e3=>by rw [e3] at hv;simp at hv) with h | h
    ·omega
    ·exact e2.2 h
   unfold World.cell?
   rw [Zk,hh]⟩,h.cap,h.bare⟩
theorem Zll {L:Lg} {ds:List Int}:Zcl L ds=true↔∀ y∈ds,L.has y=true∧y≠L.last:=by
 unfold Zcl
 rw [List.all_eq_true]
 constructor
 ·intro h y hy
  have:=h y hy
  simp only [Bool.and_eq_true,Bool.not_eq_true',decide_eq_false_iff_not] at this
  exact this
 ·intro h y hy
  have:=h y hy
  simp only [Bool.and_eq_true,Bool.not_eq_true',decide_eq_false_iff_not]
  exact this
theorem Zaq (a b:List Nm) (m:Dk):Z7 (a++b) m=Z7 b (Z7 a m):=by unfold Z7;rw [List.foldl_append]
theorem Zrh (ds xs:List Int) (x:Int):goneN (goesL ds (xs++[x]))=goneN (goesL ds xs)++if x∈ds then [nmS x,nmH x] else []:=by
 unfold goneN goesL
 rw [List.filter_append,List.flatMap_append]
 by_cases h:x∈ds
 ·rw [if_pos h];simp [h]
 ·rw [if_neg h];simp [h]
theorem LOk.removes:∀ (ns:List Nm) {T:Nat} {m:Dk},LOk T S m→LOk (T+ns.length) S (Z7 ns m)
 | [],_,_,h=>h
 | x :: ns,T,m,h=>by
   have:=LOk.removes ns (h.remove x)
   rw [List.length_cons]
   show LOk _ S (Z7 ns (m.remove x).1)
   exact this.mono (by omega) (Nat.le_refl _)
theorem Zmu (ds:List Int):∀ xs:List Int,(goneN (goesL ds xs)).length≤2*xs.length:=by
 intro xs
 have h1:(goneN (goesL ds xs)).length=2*(goesL ds xs).length:=by
  unfold goneN
  generalize goesL ds xs=ys
  induction ys with
  | nil=>rfl
  | cons y ys ih=>rw [List.flatMap_cons,List.length_append,ih,List.length_cons];simp only [List.length_cons,List.length_nil];omega
 have h2:(goesL ds xs).length≤xs.length:=List.length_filter_le _ _
 omega
theorem Zfy (DA:Option Addr) (dn dc:Nat) (ds:List Int) (w:World) (hd:Ints w DA dn dc ds) (hdn:dn≤1000000) (hDA:∀ ad,DA=some ad→ds≠[]→ad.block < B∨out ad.block) (h:LgAt B w0 w d l out A n c L) (hr:LgR L) (ok:LOk T S L.dk) (hT:T≤80000) (hS:S≤10000000) :
 Calls Tryz.prog 40 #[.pointer (some ⟨l,0,none⟩),.slice DA dn dc] w (LgTo B w0 d l out w (dropP L ds)):=by
 have hm1:=Whole.made w 40 #[.slice DA dn dc]
 have hg1:=Zb w (.cells #[.slice DA dn dc] 40)
 have hz1:=World.size_alloc w (.cells #[.slice DA dn dc] 40)
 obtain ⟨w1,hw1⟩:∃ y,w.alloc (.cells #[.slice DA dn dc] 40)=y:=⟨_,rfl⟩
 rw [hw1] at hm1 hg1 hz1
 obtain ⟨out',hout'⟩:∃ o:Nat→Prop,(fun k=>out k∨(w.heap.size≤k∧k < w1.heap.size))=o:=⟨_,rfl⟩
 have hmo:=h.more hg1
 rw [hout'] at hmo
 have hin:∀ k,out k→out' k:=fun k hk=>by rw [←hout'];exact .inl hk
 have hob:out' w.heap.size:=by rw [←hout'];exact .inr ⟨Nat.le_refl _,by omega⟩
 have hnl:=h.ints.len
 have hds:=hd.len
 obtain ⟨bx,hbx⟩:∃ bx,w.heap.size=bx:=⟨_,rfl⟩
 rw [hbx] at hm1 hob
 have x0:=hm1.cell 0
 simp only [List.getElem?_toArray,List.getElem?_cons_zero] at x0
 have H1:=hid hmo
 have HB:=hid (And.intro hm1 hob)
 have HD:=hid (And.intro (hd.grow hg1) (And.intro (show ∀ ad,DA=some ad→ds≠[]→ad.block < B∨out' ad.block from fun ad e hne=>(hDA ad e hne).imp id (hin _)) (And.intro hds hnl)))
 have HG1:=hid (And.intro hg1 hin)
 have HK:=hid (And.intro hr (And.intro ok (And.intro hT hS)))
 have HBX:=hid (show bx < w1.heap.size by omega)
 obtain ⟨rr,hrr⟩:∃ rr,dropP L ds=rr:=⟨_,rfl⟩
 rw [hrr]
 unfold dropP at hrr
 have HRR:=hid hrr
 clear h hd hm1 hg1 hmo hin hob hnl hds hr ok hT hS hrr hDA hz1 hout'
 go_enter Tryz.func40,Tryz.ntmps40
 go_wp2_with (fail)
 clear hw1
 go_loopw [14] (fun vi wr=>∃ j:Nat,j≤dn∧vi=.int .i64 (j:Nat)∧Hid (∀ y∈ds.take j,L.has y=true∧y≠L.last)∧Hid (Grows w1 wr)) (fun i _=>dn - (intOf i).toNat)
 case atStart=>exact ⟨0,by omega,rfl,hid (by simp),hid (Grows.refl _)⟩
 case round =>
  obtain ⟨j,hj,rfl,HU,HGR⟩:=hrel
  by_cases hlt:j < dn
  ·have hlt':(j:Int) < (dn:Int):=by omega
   have hj0:(0:Int)≤(j:Int):=by omega
   have e5:IntKind.i64.wrap ((j:Int)+1)=(j:Int)+1:=IntWalk.i64_in _ ⟨by omega,by omega⟩
   obtain ⟨ad,y,rfl,hc,hy,_⟩:=(HD.out.1.grow HGR.out).get hlt
   have hha:=Zhk y (H1.out.grow HGR.out) HK.out.1
   obtain ⟨b,hb⟩:∃ b,L.has y=b:=⟨_,rfl⟩
   rw [hb] at hha
   have HHA:=hid hha
   have HYB:=hid (And.intro hy hb)
   clear hha hy hb
   cases b with
   | false =>
     have hrr:=HRR.out
     rw [if_neg (fun e=>by
      have:=Zll.1 e y (List.mem_of_getElem? HYB.out.1)
      rw [HYB.out.2] at this
      cases this.1)] at hrr
     subst hrr
     go_wp2_with (fail)
     refine HHA.out.mono ?_
     rintro e w2 ⟨rfl,hg2⟩
     have H2:=hid ((H1.out.grow HGR.out).grow hg2)
     have HG2:=hid (Grows.trans HGR.out hg2)
     clear hg2 hc
     go_wp2_with (fail)
     go_ret
     exact ⟨rfl,(H2.out.less HG1.out.2).in,Stays.grows (Grows.trans HG1.out.1 HG2.out)⟩
   | true =>
     go_wp2_with (fail)
     refine HHA.out.mono ?_
     rintro e w2 ⟨rfl,hg2⟩
     have H2:=hid ((H1.out.grow HGR.out).grow hg2)
     have HG2:=hid (Grows.trans HGR.out hg2)
     obtain ⟨z0,z1,z2,z3,z4⟩:=H2.out.fields (Grows.refl w2)
     clear hg2 hc z0 z1 z2 z3
     by_cases hyl:y=L.last
     ·have hrr:=HRR.out
      rw [if_neg (fun e=>(Zll.1 e y (List.mem_of_getElem? HYB.out.1)).2 hyl)] at hrr
      subst hrr
      have hb:(y==L.last)=true:=by rw [hyl];exact beq_self_eq_true _
      clear hyl
      go_wp2_with (fail)
      go_ret
      exact ⟨rfl,(H2.out.less HG1.out.2).in,Stays.grows (Grows.trans HG1.out.1 HG2.out)⟩
     ·have hb:(y==L.last)=false:=by rw [beq_eq_false_iff_ne];exact hyl
      have HYL:=hid hyl
      clear hyl
      go_wp2_with (fail)
      go_roundw
      case rel=>exact ⟨j+1,by omega,by first | rfl | go_num,hid (fun z hz=>by
       obtain ⟨hj',hy'⟩:=List.getElem?_eq_some_iff.1 HYB.out.1
       rw [List.take_succ_eq_append_getElem hj',hy',List.mem_append] at hz
       rcases hz with hz | hz
       ·exact HU.out z hz
       ·rw [List.mem_singleton.1 hz];exact ⟨HYB.out.2,HYL.out⟩),HG2⟩
      case measure=>simp [intOf];omega
  obtain rfl:j=dn:=by omega
  have hmay:Zcl L ds=true:=Zll.2 fun y hy=>HU.out y (by rw [List.take_of_length_le (by rw [HD.out.2.2.1];omega)];exact hy)
  have hrr:=HRR.out
  rw [if_pos hmay] at hrr
  have H2:=hid (H1.out.grow HGR.out)
  obtain ⟨z0,z1,z2,z3,z4⟩:=H2.out.fields (Grows.refl wr)
  have HSG:=hid (Zen H2.out HK.out.1)
  have HRR2:=hid hrr
  have HWS:=hid HGR.out.size
  clear hrr hmay z0 z1 z3 z4
  go_wp2_with (fail)
  refine HSG.out.mono ?_
  rintro e w5 ⟨A5,c5,rfl,ho5,hg5⟩
  have hn5:n≤1000000:=by have:=HK.out.1.few;have:=HD.out.2.2.2;omega
  have hdel:=Zn7 wr.heap.size bx DA _ dc ds A5 n c5 L.man.segs w5 ho5 hn5 (((Grows.trans HGR.out hg5).whole HB.out.1).cell 0) (by have:=HBX.out;have:=HWS.out;omega) (HD.out.1.grow (Grows.trans HGR.out hg5)) (by omega) (fun ad e hne=>by
   have h1:=H1.out.dk.size
   have h2:=HWS.out
   rcases HD.out.2.1 ad e hne with h | h
   ·omega
   ·have:=H1.out.dk.lt (.inl h);omega)
  obtain ⟨ks,hks⟩:∃ ks,Yl ds L.man.segs=ks:=⟨_,rfl⟩
  obtain ⟨kn,hkn⟩:∃ kn,ks.length=kn:=⟨_,rfl⟩
  rw [hks,hkn] at hdel
  have HDE:=hid hdel
  have HG5:=hid hg5
  have HKS:=hid (show ∀ y∈ks,In64 y from fun y hy=>by
   rw [←hks] at hy
   have:=HK.out.1.seg (List.mem_filter.1 hy).1
   exact ⟨by omega,by omega⟩)
  have hrr:=HRR2.out
  rw [hks] at hrr
  have HRR3:=hid hrr
  clear ho5 hg5 hdel HSG hkn hrr HRR2 hks hn5
  go_wp2_with (fail)
  refine HDE.out.mono ?_
  rintro e w6 ⟨rfl,ho6,hb6⟩
  have hg6:Grows wr w6:=Below.trans (show Below wr.heap.size wr w5 from HG5.out) hb6
  have hsv:=Ziw ks A5 kn c5 H2.out hg6 ho6 HKS.out (by have:=HK.out.1.next;exact ⟨by omega,by omega⟩) HK.out.2.1.ok (by have:=HK.out;omega)
  have hok8:=LOk.lsave HK.out.2.1 ks
  have hrr:=HRR3.out
  obtain ⟨⟨L8,e8⟩,hq8⟩:∃ q,Z6 L ks=q:=⟨_,rfl⟩
  rw [hq8] at hsv hok8 hrr
  dsimp only at hok8 hrr
  have HSV:=hid hsv
  have HOK8:=hid hok8
  have HG6:=hid hg6
  clear ho6 hb6 hg6 hsv hok8 hq8 HDE
  go_wp2_with (fail)
  refine HSV.out.mono ?_
  rintro e w8 ⟨rfl,st8,h8⟩
  dsimp only at h8
  dsimp only
  have ST8:=hid ((Stays.grows (Grows.trans HGR.out HG6.out)).trans st8)
  have STR:=hid ((Stays.grows HG6.out).trans st8)
  clear st8 HSV
  rcases h8 with ⟨rfl,h8,hold8⟩ | ⟨he8,h8⟩
  rotate_left 1
  ·have heb:(e8 != 0)=true:=by rw [bne_iff_ne];exact he8
   rw [if_neg he8] at hrr
   subst hrr
   have H8:=hid h8
   clear he8 h8
   go_wp2_with (fail)
   go_ret
   exact ⟨rfl,(H8.out.less HG1.out.2).in,(Stays.grows HG1.out.1).trans (Zt ST8.out HG1.out.2)⟩
  rw [if_pos rfl] at hrr
  have H8:=hid h8
  have hbox8:=Zo ST8.out HB.out.1 HB.out.2
  have hds8:=HD.out.1.stays ST8.out HD.out.2.1
  have hst8:∀ k,out' k→out' k∨∃ ad,A=some ad∧k=ad.block:=fun k hk=>.inl hk
  obtain ⟨oA,hoA⟩:∃ o:Nat→Prop,(fun k=>out' k∨∃ ad,A=some ad∧k=ad.block)=o:=⟨_,rfl⟩
  rw [hoA] at H8
  have hin8:∀ k,out' k→oA k:=fun k hk=>by rw [←hoA];exact .inl hk
  have HC8:=hid (And.intro hbox8 (And.intro hds8 (And.intro hold8 (And.intro hin8 (show ∀ ad,A=some ad→oA ad.block from fun ad e=>by rw [←hoA];exact .inr ⟨ad,e,rfl⟩)))))
  obtain ⟨m8,hm8⟩:∃ m,L8.dk=m:=⟨_,rfl⟩
  obtain ⟨sg,hsg⟩:∃ sg,L.man.segs=sg:=⟨_,rfl⟩
  rw [hm8] at HOK8
  rw [hsg] at HC8
  rw [hm8,hsg] at hrr
  have hL8:L8.on m8=L8:=by rw [←hm8];rfl
  have HN:=hid (show sg.length=n by rw [←hsg];exact HD.out.2.2.2)
  have HNB:=hid (show n≤1000 by have:=HK.out.1.few;have:=HD.out.2.2.2;omega)
  have HRR8:=hid hrr
  have HL8:=hid hL8
  clear h8 hbox8 hds8 hold8 hin8 hst8 hoA hm8 hsg hrr hL8 HRR3 HRR HKS
  go_wp2_with (fail)
  go_loopw [48] (fun vi wr=>∃ (j:Nat) (mj:Dk),j≤n∧vi=.int .i64 (j:Nat)∧Hid (Z7 (goneN (goesL ds (sg.take j))) m8=mj)∧Hid (LgAt B w0 wr d l oA A5 kn c5 (L8.on mj))∧Hid (LOk (T+3+2*j) S mj)∧Hid (Stays B oA w8 wr)) (fun i _=>n - (intOf i).toNat)
  case atStart=>exact ⟨0,m8,by omega,rfl,hid rfl,hid (by rw [HL8.out];exact H8.out),HOK8,hid (Stays.grows (Grows.refl _))⟩
  case round =>
   obtain ⟨i,mi,hi,rfl,HM,HA,HO,HS⟩:=hrel
   by_cases hlt:i < n
   ·have hlt':(i:Int) < (n:Int):=by omega
    have hj0:(0:Int)≤(i:Int):=by omega
    have e5:IntKind.i64.wrap ((i:Int)+1)=(i:Int)+1:=IntWalk.i64_in _ ⟨by omega,by have:=HNB.out;omega⟩
    obtain ⟨ad,x,rfl,hc,hx,_⟩:=(Ints.owned (Ziv HC8.out.2.2.1 HS.out HC8.out.2.2.2.2)).get hlt
    have hbx:=(Zo HS.out HC8.out.1 (HC8.out.2.2.2.1 _ HB.out.2)).cell 0
    have hdx:=HC8.out.2.1.stays HS.out (fun ad e hne=>(HD.out.2.1 ad e hne).imp id (HC8.out.2.2.2.1 _))
    have hd1:=Zfz bx DA _ dc ds x wr hbx hdx (by omega)
    obtain ⟨b,hb⟩:∃ b,decide (x∈ds)=b:=⟨_,rfl⟩
    rw [hb] at hd1
    have HD1:=hid hd1
    have hstep:Z7 (goneN (goesL ds (sg.take (i+1)))) m8=if x∈ds then ((mi.remove (nmS x)).1.remove (nmH x)).1 else mi:=by
     obtain ⟨hj',hy'⟩:=List.getElem?_eq_some_iff.1 hx
     rw [List.take_succ_eq_append_getElem hj',hy',Zrh,Zaq,HM.out]
     split <;> rfl
    have HST:=hid (And.intro hstep hb)
    clear hbx hdx hd1 hstep hb hx
    cases b with
    | false =>
      have HST2:=hid (HST.out.1.trans (if_neg (of_decide_eq_false HST.out.2)))
      go_wp2_with (fail)
      refine HD1.out.mono ?_
      rintro e w2 ⟨rfl,rfl⟩
      clear hc
      go_wp2_with (fail)
      go_roundw
      case rel=>exact ⟨i+1,mi,by omega,by first | rfl | go_num,HST2,HA,hid (HO.out.mono (by omega) (Nat.le_refl _)),HS⟩
      case measure=>simp [intOf];omega
    | true =>
      have HST2:=hid (HST.out.1.trans (if_pos (of_decide_eq_true HST.out.2)))
      go_wp2_with (fail)
      refine HD1.out.mono ?_
      rintro e w2 ⟨rfl,rfl⟩
      clear hc
      go_wp2_with (fail)
      refine (nm_of 1 x wr).mono ?_
      rintro e w3 ⟨rfl,hg3⟩
      have h3:=HA.out.grow hg3
      have hrm:=Zel (nmS x) (Zom x) w3 h3 HO.out.ok (by have:=HK.out;have:=HNB.out;omega) rfl
      obtain ⟨m4,hm4⟩:∃ m4,(mi.remove (nmS x)).1=m4:=⟨_,rfl⟩
      have hm4':((L8.on mi).dk.remove (nmS x)).1=m4:=hm4
      rw [hm4'] at hrm
      have HRM:=hid hrm
      have ho4:=HO.out.remove (nmS x)
      rw [hm4] at ho4 HST2
      have HO4:=hid ho4
      have S3:=hid (HS.out.trans (Stays.grows hg3))
      rw [show ofP 1 x=nmS x from rfl]
      clear h3 hg3 hrm hm4 hm4' ho4
      go_wp2_with (fail)
      refine HRM.out.mono ?_
      rintro e w4 ⟨rfl,h4,st4⟩
      have H4:=hid (show LgAt B w0 w4 d l oA A5 kn c5 (L8.on m4) from h4)
      have S4:=hid (S3.out.trans st4)
      clear h4 st4 HRM
      go_wp2_with (fail)
      refine (nm_of 2 x w4).mono ?_
      rintro e w5 ⟨rfl,hg5⟩
      have hrm:=Zel (nmH x) (Zdy x) w5 (H4.out.grow hg5) HO4.out.ok (by have:=HK.out;have:=HNB.out;omega) rfl
      have HRM:=hid hrm
      have S5:=hid (S4.out.trans (Stays.grows hg5))
      rw [show ofP 2 x=nmH x from rfl]
      clear hg5 hrm
      go_wp2_with (fail)
      refine HRM.out.mono ?_
      rintro e w6 ⟨rfl,h6,st6⟩
      have H6:=hid (show LgAt B w0 w6 d l oA A5 kn c5 (L8.on (m4.remove (nmH x)).1) from h6)
      have S6:=hid (S5.out.trans st6)
      clear h6 st6 HRM
      go_wp2_with (fail)
      go_roundw
      case rel=>exact ⟨i+1,(m4.remove (nmH x)).1,by omega,by first | rfl | go_num,HST2,H6,hid ((HO4.out.remove (nmH x)).mono (by omega) (Nat.le_refl _)),S6⟩
      case measure=>simp [intOf];omega
   ·obtain rfl:i=n:=by omega
    have hrr:=HRR8.out
    have hm:=HM.out
    rw [List.take_of_length_le (by rw [HN.out];omega)] at hm
    rw [hm] at hrr
    subst hrr
    clear hm
    go_wp2_with (fail)
    go_ret
    exact ⟨rfl,(HA.out.less fun k hk=>HC8.out.2.2.2.1 _ (HG1.out.2 k hk)).in,(Stays.grows HG1.out.1).trans ((Zt ST8.out HG1.out.2).trans (Zt HS.out fun k hk=>HC8.out.2.2.2.1 _ (HG1.out.2 k hk)))⟩
end
end Go.Proofs.YtkelafkbmnjpeaaGreat
set_option maxHeartbeats 8000000
set_option maxRecDepth 100000
namespace Go.Proofs.YtkelafkbmnjpeaaGreat
open Go.Lib (hid)
open Go.RowKit Go.Maps Go.WideMaps
section
variable {B d l n c T S K:Nat} {w0 w:World} {out:Nat→Prop} {A:Option Addr} {L:Lg}
def HiTo (w:World) (r:Option (List Ht)) (e:Ending) (w':World):Prop:=∃ A' m c',e=.returned (.tuple #[.slice A' m c',.bool r.isSome])∧m=(r.getD []).length∧w'.ownsRow w.heap.size 167 4 (.slice A' m c') m ((r.getD []).flatMap htE)∧Grows w w'
theorem HiTo.none {w w':World} (h:Grows w w'):HiTo w Option.none (.returned (.tuple #[.slice Option.none 0 0,.bool false])) w':=⟨Option.none,0,0,rfl,rfl,World.ownsRow_nil _ _ _ _,h⟩
theorem LOk.sizes (h:LOk T S L.dk) (hd:DkIn B w0 w d out L.dk) {nm:Nm} (hn:nm.length≤16):0≤(L.dk.size nm).1∧(L.dk.size nm).1≤T+2*S+4100:=by
 have ok:=h.ok
 obtain ⟨own,G,h1,_⟩:=hd
 unfold Dk.size
 cases hf:Dir.find nm L.dk.names with
 | none=>exact ⟨Int.le_refl _,by show (0:Int)≤_;omega⟩
 | some f =>
   have:=(ok.bytes f (h1.find_lt (by unfold maxLen;omega) hf)).1
   exact ⟨Int.natCast_nonneg _,by show ((L.dk.files f).bytes.length:Int)≤_;omega⟩
theorem Zrj (x:Int):(nmH x).length≤16:=by
 unfold nmH ofP
 split
 ·simp
 ·rw [if_neg (by decide),if_pos rfl,List.length_cons,Yi]
  omega
theorem Zn8 (x:Int) (w:World) (h:LgAt B w0 w d l out A n c L) (hr:LgR L) (ok:LOk T S L.dk) (hT:T≤90000) (hS:S≤400000) :
 Calls Tryz.prog 49 #[.pointer (some ⟨l,0,none⟩),.int .i64 x] w (HiTo w (Zep L x)):=by
 have hok:=ok.ok
 have HF:=hid (fun w' (hg:Grows w w')=>h.fields hg)
 have hh:=Zhk x h hr
 obtain ⟨r,hrr⟩:∃ r,Zep L x=r:=⟨_,rfl⟩
 rw [hrr]
 unfold Zep at hrr
 obtain ⟨b,hb⟩:∃ b,L.has x=b:=⟨_,rfl⟩
 rw [hb] at hh hrr
 have HH:=hid hh
 cases b with
 | false =>
   rw [if_neg (by decide)] at hrr
   subst hrr
   clear h hr ok hok hh hb
   go_enter Tryz.func49,Tryz.ntmps49
   go_wp2_with (fail)
   refine HH.out.mono ?_
   rintro e w1 ⟨rfl,hg⟩
   have HG:=hid hg
   clear hg
   go_wp2_with (fail)
   go_ret2
   exact HiTo.none HG.out
 | true =>
   rw [if_pos rfl] at hrr
   have hx:=hr.seg (show x∈L.man.segs from by unfold Lg.has at hb;exact of_decide_eq_true hb)
   have hszb:=ok.sizes h.dk (Zrj x)
   have hn:=fun w'=>nm_of 2 x w'
   rw [show ofP 2 x=nmH x from rfl] at hn
   obtain ⟨⟨sv,sb⟩,hsz⟩:∃ q,L.dk.size (nmH x)=q:=⟨_,rfl⟩
   rw [hsz] at hszb hrr
   dsimp only at hszb hrr
   have hsi:=fun w' (hg:Grows w w')=>Zhx (nmH x) (h.grow hg).dk (Zdy x) hsz
   obtain ⟨⟨rb,re⟩,hrd⟩:∃ q,L.dk.read (nmH x) 0 sv=q:=⟨_,rfl⟩
   have hrlen:=fun h0=>Zda (m:=L.dk) (n:=nmH x) (x:=0) (k:=sv) h0
   rw [hrd] at hrlen hrr
   have hre:=fun w' (hg:Grows w w')=>Zdb (nmH x) 0 sv (h.grow hg).dk hok (by omega) (Zdy x) (by omega) (by omega) hrd
   dsimp only at hrlen hrr
   obtain ⟨bs,hbs⟩:∃ q,rb.getD []=q:=⟨_,rfl⟩
   unfold GotTo at hre
   dsimp only at hre
   rw [hbs] at hre hrr
   have hbl:re=0→bs.length≤1000000:=fun h0=>by
    obtain ⟨b,e,hl⟩:=hrlen h0
    rw [←hbs,e]
    show b.length≤1000000
    omega
   obtain ⟨⟨zv,zb⟩,hzz⟩:∃ q,L.dk.size (nmS x)=q:=⟨_,rfl⟩
   rw [hzz] at hrr
   dsimp only at hrr
   have HZ:=hid (fun w' (hg:Grows w w')=>Za8 w' x (h.grow hg).dk hzz)
   obtain ⟨s,hs⟩:∃ s:ByteArray,(⟨(nmH x).toArray⟩:ByteArray)=s:=⟨_,rfl⟩
   simp only [hs] at hn hsi hre
   have HN:=hid hn
   have HSI:=hid hsi
   have HRE:=hid hre
   clear h hr ok hok hh hb hx hszb hn hsz hsi hrd hrlen hre hbs hzz hs
   go_enter Tryz.func49,Tryz.ntmps49
   go_wp2_with (fail)
   refine HH.out.mono ?_
   rintro e w1 ⟨rfl,hg⟩
   have HG1:=hid (show Grows w w1 from hg)
   clear hg HH
   go_wp2_with (fail)
   refine (HN.out w1).mono ?_
   rintro e w2 ⟨rfl,hg⟩
   have HG2:=hid (Grows.trans HG1.out hg)
   obtain ⟨z0,z1,z2,z3,z4⟩:=HF.out w2 (Grows.trans HG1.out hg)
   clear hg
   go_wp2_with (fail)
   refine (HSI.out w2 HG2.out).mono ?_
   rintro e w3 ⟨rfl,rfl⟩
   go_wp2_with (fail)
   refine (HRE.out w2 HG2.out).mono ?_
   rintro e w4 ⟨A4,c4,rfl,hs4,hg4⟩
   have HS4:=hid hs4
   have HG4:=hid (Grows.trans HG2.out hg4)
   clear z0 z1 z2 z3 z4
   obtain ⟨z0,z1,z2,z3,z4⟩:=HF.out w4 HG4.out
   clear hs4 hg4
   by_cases he:re=0
   rotate_left 1
   ·have heb:(re != 0)=true:=by rw [bne_iff_ne];exact he
    rw [if_neg he] at hrr
    subst hrr
    clear he hbl
    go_wp2_with (fail)
    go_ret2
    exact HiTo.none HG4.out
   subst he
   rw [if_pos rfl] at hrr
   have HBL:=hid (hbl rfl)
   clear hbl
   have hget:=fun w' (hg:Grows w4 w')=>Zto A4 bs.length c4 bs zv w' (HS4.out.grow hg) HBL.out
   rw [hrr] at hget
   have HGT:=hid hget
   obtain ⟨bl,hble⟩:∃ k,bs.length=k:=⟨_,rfl⟩
   rw [hble] at HGT ⊢
   clear hget hrr hble
   go_wp2_with (fail)
   refine (HZ.out w4 HG4.out).mono ?_
   rintro e w5 ⟨rfl,hg5⟩
   have HG5:=hid (show Grows w4 w5 from hg5)
   clear hg5
   go_wp2_with (fail)
   refine (HGT.out w5 HG5.out).mono ?_
   rintro e w6 ⟨A6,m6,c6,rfl,hm6,ho6,hg6⟩
   have hws:w.heap.size≤w5.heap.size:=(Grows.trans HG4.out HG5.out).size
   have HX:=hid (And.intro hm6 (And.intro (Zh ho6 hws) (Grows.trans (Grows.trans HG4.out HG5.out) hg6)))
   clear hm6 ho6 hg6 hws
   go_wp2_with (fail)
   go_ret2
   exact ⟨A6,m6,c6,rfl,HX.out.1,HX.out.2.1,HX.out.2.2⟩
end
end Go.Proofs.YtkelafkbmnjpeaaGreat
set_option maxHeartbeats 8000000
set_option maxRecDepth 100000
namespace Go.Proofs.YtkelafkbmnjpeaaGreat
open Go.RowKit Go.Maps Go.WideMaps
section
variable {B d T S K:Nat} {w0 w:World} {out:Nat→Prop} {m:Dk}
def OpTo (B:Nat) (w0:World) (d:Nat) (out:Nat→Prop) (w:World) (r:Option Lg×Int) (e:Ending) (w':World):Prop :=
 Grows w w'∧((r.1=none∧e=.returned (.tuple #[.pointer none,.int .i64 r.2]))∨∃ L l,r.1=some L∧w.heap.size≤l∧e=.returned (.tuple #[.pointer (some ⟨l,0,none⟩),.int .i64 r.2])∧LgIn B w0 w' d l out L)
theorem LgAt.laid {w1:World} {A:Option Addr} {n c:Nat} {L:Lg} (h:DkIn B w0 w d out L.dk) (hg:Grows w w1) (ho:w1.ownsRow w.heap.size 3 1 (.slice A n c) n (L.man.segs.map iV)) :
 LgAt B w0 (w1.alloc (.cells (lgC d A n c L) 100)) d w1.heap.size out A n c L:=by
 have hg2:=Grows.trans hg (Zb w1 (.cells (lgC d A n c L) 100))
 have hsz:=World.size_alloc w1 (.cells (lgC d A n c L) 100)
 have hwm:=Whole.made w1 100 (lgC d A n c L)
 have hog:=Zd ho (Zb w1 (.cells (lgC d A n c L) 100))
 generalize w1.alloc (.cells (lgC d A n c L) 100)=w2 at *
 have hB:=h.size
 have hlt:=fun k (hk:out k)=>h.lt hk
 have hw:=hg.size
 have hA:∀ ad,A=some ad→w.heap.size≤ad.block∧ad.block < w1.heap.size:=fun ad e=>by
  rcases Yk ho with ⟨e2,_⟩ | ⟨g,e2,h1,h2⟩
  ·rw [e] at e2;cases e2
  ·rw [e] at e2
   injection e2 with e2
   rw [e2]
   exact ⟨h1,h2⟩
 refine ⟨(h.more hg2).less fun k hk=>?_,hwm,Zh hog hB,by omega,fun e=>by have:=hlt _ e;omega,fun ad e=>⟨by have:=hA ad e;omega,fun e2=>by have:=hA ad e;have:=hlt _ e2;omega⟩⟩
 rcases hk with hk | hk | ⟨ad,e,hk⟩
 ·exact .inl hk
 ·exact .inr (by omega)
 ·have:=hA ad e
  exact .inr (by omega)
theorem Zf0 (limit:Int) (w:World) (h:DkIn B w0 w d out m) (ok:DkOk K m) (hK:K≤90000000) :
 Calls Tryz.prog 13 #[.pointer (some ⟨d,0,none⟩),.int .i64 limit] w (OpTo B w0 d out w (openP m limit)):=by
 have H:=Lib.hid h
 obtain ⟨r,hr⟩:∃ r,openP m limit=r:=⟨_,rfl⟩
 rw [hr]
 unfold openP at hr
 by_cases h1:limit < 64
 ·rw [if_pos (.inl h1)] at hr
  subst hr
  clear h ok
  go_enter Tryz.func13,Tryz.ntmps13
  go_wp2_with (fail)
  go_ret2
  exact ⟨Grows.refl _,.inl ⟨rfl,rfl⟩⟩
 by_cases h2:limit > 1073741824
 ·rw [if_pos (.inr h2)] at hr
  subst hr
  clear h ok
  go_enter Tryz.func13,Tryz.ntmps13
  go_wp2_with (fail)
  go_ret2
  exact ⟨Grows.refl _,.inl ⟨rfl,rfl⟩⟩
 rw [if_neg (by omega)] at hr
 have hlo:=fun w' (hg:Grows w w')=>Zqv w' (h.grow hg) ok (by omega)
 obtain ⟨⟨x,is,er⟩,hq⟩:∃ q,loadP m=q:=⟨_,rfl⟩
 rw [hq] at hr
 simp only [hq] at hlo
 dsimp only at hr
 have HL:=Lib.hid hlo
 clear h ok hlo hq
 go_enter Tryz.func13,Tryz.ntmps13
 go_wp2_with (fail)
 refine (HL.out w (Grows.refl _)).mono ?_
 rintro e w1 ⟨A1,k1,c1,rfl,ho1,hg1⟩
 dsimp only at ho1
 have H1:=Lib.hid (And.intro ho1 hg1)
 clear ho1 hg1 HL
 by_cases her:er=0
 rotate_left 1
 ·have heb:(er != 0)=true:=by rw [bne_iff_ne];exact her
  rw [if_neg her] at hr
  subst hr
  clear her
  go_wp2_with (fail)
  go_ret2
  exact ⟨Grows.trans H1.out.2 (Zb _ _),.inl ⟨rfl,rfl⟩⟩
 subst her
 rw [if_pos rfl] at hr
 cases is with
 | false =>
   rw [if_neg (by decide)] at hr
   subst hr
   go_wp2_with (fail)
   go_ret2
   have hg2:=Grows.trans H1.out.2 (Zb w1 (.cells #[.slice none 0 0,.int .i64 1] 96))
   have hl:=LgAt.laid (L:=⟨m,limit,⟨[],1⟩,-1⟩) (A:=none) (n:=0) (c:=0) H.out hg2 (World.ownsRow_nil _ _ _ _)
   rw [World.size_alloc] at hl
   exact ⟨Grows.trans hg2 (Zb _ _),.inr ⟨_,w1.heap.size+1,rfl,by have:=H1.out.2.size;omega,rfl,hl.in⟩⟩
 | true =>
   rw [if_pos rfl] at hr
   subst hr
   go_wp2_with (fail)
   go_ret2
   have hga:=Zb w1 (.cells #[.slice A1 k1 c1,.int .i64 x.next] 96)
   have hl:=LgAt.laid (L:=⟨m,limit,x,-1⟩) (A:=A1) (n:=k1) (c:=c1) H.out (Grows.trans H1.out.2 hga) (Zd H1.out.1 hga)
   rw [World.size_alloc] at hl
   exact ⟨Grows.trans (Grows.trans H1.out.2 hga) (Zb _ _),.inr ⟨_,w1.heap.size+1,rfl,by have:=H1.out.2.size;omega,rfl,hl.in⟩⟩
end
end Go.Proofs.YtkelafkbmnjpeaaGreat
namespace Go.Proofs.YtkelafkbmnjpeaaGreat
namespace H15
def recU:Rc:=⟨4,[97,98,99,100,101,102,103,104],0,0,0,[],[]⟩
def L0:Lg:=⟨Dk.new 10000,64,⟨[],1⟩,-1⟩
def L1:Lg:=(laddP L0 recT).1
def L2:Lg:=(laddP L1 recU).1
def L3:Lg:=(laddP L2 recU).1
def L4:Lg:=(laddP L3 recU).1
def L5:Lg:=(laddP L4 recU).1
def L6:Lg:=(laddP L5 recU).1
def L7:Lg:=(laddP L6 recU).1
theorem open0:openP (Dk.new 10000) 64=(some L0,0):=by kernel_rfl
theorem added1:(laddP L0 recT).2=(1,13,11,0):=by kernel_rfl
theorem last7:L7.last=3:=by kernel_rfl
theorem got7:lgetP L7 1 13=(recT,0):=by kernel_rfl
theorem hints7:(Zep L7 1).isSome=true∧((Zep L7 1).getD []).length=2:=⟨by kernel_rfl,by kernel_rfl⟩
def L8:Lg:=(dropP L7 [1]).1
theorem drop7:(dropP L7 [1]).2=0:=by kernel_rfl
theorem drop8:dropP L8 [3]=(L8,1):=by
 unfold dropP
 rw [if_neg]
 rw [show Zcl L8 [3]=false by kernel_rfl]
 decide
theorem got8:lgetP L8 1 13=(Rc.none,3):=by
 unfold lgetP
 rw [if_neg]
 rw [show L8.has 1=false by kernel_rfl]
 decide
theorem Zvo (m:Dk):openP m 63=(none,1):=by unfold openP;rw [if_pos (.inl (by decide))]
theorem segs8:L8.man.segs=[2,3]:=by kernel_rfl
end H15
end Go.Proofs.YtkelafkbmnjpeaaGreat
