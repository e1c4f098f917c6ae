/-
  Texts that the statements lean on, one behind the other.
-/
import Derived.Test.YtkelafkbmnjpeaaGreatMG38
import Derived.Test.YtkelafkbmnjpeaaGreatMG35
import Derived.RangeFuncCalls
import Derived.Test.YtkelafkbmnjpeaaGreatMG36
import Derived.Test.YtkelafkbmnjpeaaGreatMG16
set_option linter.unusedSimpArgs false
set_option linter.unusedVariables false
set_option maxHeartbeats 16000000
set_option maxRecDepth 100000
namespace Go.Proofs.YtkelafkbmnjpeaaGreat
open Go.Lib (hid)
open Go.RowKit Go.Maps Go.WideMaps
attribute [local go_sem] Oper.semAt_some
theorem Zf4 {p:Nm→Bool} {ns:List Nm} {j:Nat} {x:Nm} (hx:ns[j]?=some x):(ns.take (j+1)).filter p=(ns.take j).filter p++if p x=true then [x] else []:=by
 obtain ⟨hj,hx⟩:=List.getElem?_eq_some_iff.1 hx
 rw [List.take_succ_eq_append_getElem hj,hx,List.filter_append,List.filter_cons]
 split <;> simp
theorem Zls {p:Nm→Bool} {ns:List Nm} {j:Nat} {x:Nm} (hx:ns[j]?=some x) (hp:p x=true):(ns.filter p)[((ns.take j).filter p).length]?=some x:=by
 obtain ⟨hj,hx'⟩:=List.getElem?_eq_some_iff.1 hx
 have e:ns=ns.take j++(x :: ns.drop (j+1)):=by rw [←hx',List.getElem_cons_drop,List.take_append_drop]
 have e2:ns.filter p=(ns.take j).filter p++(x :: (ns.drop (j+1)).filter p):=by
  conv=>lhs;rw [e]
  rw [List.filter_append,List.filter_cons,if_pos hp]
 rw [e2,List.getElem?_append_right (Nat.le_refl _),Nat.sub_self]
 rfl
theorem Zoe (p:Nm→Bool) (ns:List Nm) (j:Nat):(ns.take j).filter p=(ns.filter p).take ((ns.take j).filter p).length:=by
 have e:ns.filter p=(ns.take j).filter p++(ns.drop j).filter p:=by rw [←List.filter_append,List.take_append_drop]
 rw [e,List.take_left]
theorem Zlt {P:Program} {n k l f:Nat} {tmps:Array Value} {assign body:Code} {w:World} {R:Ending→World→Prop} (h:RoundIn Fence.wide n P l f tmps assign body w R):RoundIn Fence.wide k P l f tmps assign body w R :=
 ⟨h.1,fun c cs _=>h.2 c cs fun d hd=>(by cases hd)⟩
section
variable {B d l n c T S K:Nat} {w0 w:World} {out:Nat→Prop} {A:Option Addr} {L:Lg}
theorem Ziq (m b:Nat) (w:World) (h:LgAt B w0 w d l out A n c L) (hb:Whole w b 29 #[.pointer (some ⟨l,0,none⟩)]) (hr:LgR L) (ok:LOk T S L.dk) (hT:T≤90000) (hS:S≤100000000) :
 Zd7 Tryz.prog m 139 #[.pointer (some ⟨b,0,none⟩)] (fun nm:Nm=>#[.string ⟨nm.toArray⟩]) (fun pre x=>((L.dk.names.map (·.1)).filter (Yd L))[pre.length]?=some x∧x.length≤16∧pre=((L.dk.names.map (·.1)).filter (Yd L)).take pre.length)
  (fun k=>k=b∨k=l∨∃ ad,A=some ad∧k=ad.block) (fun xs=>xs=(L.dk.names.map (·.1)).filter (Yd L)) w:=by
 intro ly J Jx W R0 hW hD hlt hJ hJx hY h0
 have hsm:=ok.small
 have hnl:L.dk.names.length≤T:=by obtain ⟨P,h⟩:=ok;exact h.names
 have hli:=Zpd (h.grow hW).dk ok.ok (by omega)
 obtain ⟨ns,hns⟩:∃ ns,L.dk.names.map (·.1)=ns:=⟨_,rfl⟩
 obtain ⟨N,hN⟩:∃ N,L.dk.names.length=N:=⟨_,rfl⟩
 rw [hns] at hsm hli hY ⊢
 rw [hN] at hnl hli
 have hnsl:ns.length=N:=by rw [←hns,List.length_map];exact hN
 obtain ⟨z0,z1,z2,z3,z4⟩:=h.fields hW
 have b0:=(hW.whole hb).cell 0
 simp only [List.getElem?_toArray,List.getElem?_cons_zero] at b0
 have HL:=hid hli
 have HV:=hid (h.grow hW).v
 have HB:=hid (hW.whole hb)
 have HR:=hid hr
 have HSM:=hid (And.intro hsm hnsl)
 have HD:=hid (show ∀ k,(k=b∨k=l∨∃ ad,A=some ad∧k=ad.block)→¬ R0 k from fun k hk h=>hD k h hk)
 have HY:=hid hY
 have HJ:=hid hJ
 have HLT:=hid (hlt _ _ _ h0)
 have HN:=hid (show N≤100000 by omega)
 clear h hb hr ok hli hY hW hns hN hsm hnsl hD hnl z1 z2 z3 z4
 show CallsIn _ _ _ _ #[.func (.yield ly) #[] #[],.pointer (some ⟨b,0,none⟩)] _ _
 refine callsIn_of_wp Tryz.func139 rfl trivial ?_ rfl
 simp only [Tryz.ntmps139,List.size_toArray,List.length_cons,List.length_nil,Nat.reduceAdd,Nat.reduceSub,Array.replicate_succ,Array.replicate_zero,List.push_toArray,List.append_toArray,List.nil_append,List.cons_append]
 gi_wp2_with (fail)
 refine ⟨trivial,(fun h=>by cases h),(callsIn_wide.2 HL.out).mono ?_⟩
 rintro e W1 ⟨A1,c1,rfl,ho1,hg1⟩
 have hj1:=hJ _ _ _ _ h0 (Zc.grows hg1)
 have H1:=hid (And.intro ho1 (And.intro hg1 hj1))
 clear ho1 hg1 hj1 b0 z0 h0 hJ hJx hlt
 gi_wp2_with (fail)
 gi_loopw [11] (fun i wr=>∃ (pre:List Nm) (R:Nat→Prop) (j:Nat),j≤N∧i=.int .i64 (j:Int)∧Hid (pre=(ns.take j).filter (Yd L))∧Hid (J pre R wr)∧Hid (Zc R0 W1 wr)∧Hid (∀ k,R k→R0 k∨W1.heap.size≤k)) (fun i _=>N - (intOf i).toNat)
 case atStart=>exact ⟨[],R0,0,by omega,rfl,hid (by simp),hid H1.out.2.2,hid (Zc.refl _ _),hid fun k h=>.inl h⟩
 case round =>
  obtain ⟨pre,R,j,hj,rfl,HP,HJR,HS,HRR⟩:=hrel
  by_cases hltj:j < N
  ·have hlt':(j:Int) < (N:Int):=by omega
   have hj0:(0:Int)≤(j:Int):=by omega
   have k1:IntKind.i64.wrap ((j:Int)+1)=(j:Int)+1:=IntWalk.i64_in _ (by have:=HN.out;omega)
   have k2:wrap64 ((j:Int)+1)=(j:Int)+1:=IntWalk.wrap64_in _ (by have:=HN.out;omega)
   have hown:wr.ownsRow W.heap.size 9 1 (.slice A1 N c1) N (ns.map strB):=Zz H1.out.1 fun k hk=>HS.out.same k (H1.out.1.lt k hk).2 fun e=>by have:=HLT.out k e;have:=(H1.out.1.lt k hk).1;omega
   have hv:LgV B wr d l A n c L:=(HV.out.grow H1.out.2.1).kept HS.out (HD.out _ (.inr (.inl rfl))) fun ad e=>HD.out _ (.inr (.inr ⟨ad,e,rfl⟩))
   have hbw:Whole wr b 29 #[.pointer (some ⟨l,0,none⟩)]:=(H1.out.2.1.whole HB.out).same (HS.out.same _ (H1.out.2.1.whole HB.out).lt (HD.out _ (.inl rfl)))
   have b0:=hbw.cell 0
   simp only [List.getElem?_toArray,List.getElem?_cons_zero] at b0
   have hst:=Zem hown fun s hs=>by have:=HSM.out.1 s hs;omega
   obtain ⟨ad,x,rfl,hc1,hx1,_⟩:=hst.get hltj
   have hxs:=HSM.out.1 x (List.mem_of_getElem? hx1)
   have hnob:=Zrs x (by omega) wr hv HR.out
   obtain ⟨bb,hbb⟩:∃ bb,Yd L x=bb:=⟨_,rfl⟩
   rw [hbb] at hnob
   have HNB:=hid hnob
   have HXX:=hid (And.intro hx1 (And.intro hbb hxs))
   clear hown hv hbw hst hx1 hxs hnob hbb
   gi_wp2_with (fail)
   refine ⟨trivial,(fun h=>by cases h),(callsIn_wide.2 HNB.out).mono ?_⟩
   rintro e W2 ⟨rfl,hg2⟩
   have hj2:=HJ.out _ _ _ _ HJR.out (Zc.grows hg2)
   have H2:=hid (And.intro hg2 (And.intro hj2 (HS.out.trans (Zc.grows hg2))))
   clear hg2 hj2 HNB b0 hc1
   cases bb with
   | false =>
     gi_wp2_with (fail)
     refine ⟨(fun f h=>by cases h),?_⟩
     gi_wp2_with (fail)
     go_roundw
     case rel=>exact ⟨pre,R,j+1,by omega,by go_num,hid (by rw [Zf4 HXX.out.1,HXX.out.2.1,HP.out];simp),hid H2.out.2.1,hid H2.out.2.2,HRR⟩
     case measure=>simp [intOf];omega
   | true =>
     obtain ⟨fn,tmps,assign,body,hy,hR⟩:=HY.out pre R x W2 H2.out.2.1 ⟨by rw [HP.out];exact Zls HXX.out.1 HXX.out.2.1,HXX.out.2.2,by
      rw [HP.out]
      exact Zoe _ ns j⟩
     have HRD:=hid hR
     clear hR
     gi_wp2_with (fail)
     refine ⟨(fun h=>by cases h),RoundIn.mono (Zlt HRD.out) ?_⟩
     rintro e W' ⟨R',hr',hs',(⟨rfl,hj'⟩ | ⟨rfl,hjx⟩)⟩
     ·have HN2:=hid (And.intro hj' (And.intro hs' hr'))
      clear hj' hs' hr' HRD hy
      gi_wp2_with (fail)
      go_roundw
      case rel =>
       obtain ⟨q1,q2,q3⟩:=HN2.out
       refine ⟨pre++[x],R',j+1,by omega,by go_num,hid (by rw [Zf4 HXX.out.1,HXX.out.2.1,HP.out];simp),hid q1,hid ?_,hid fun k hk=>?_⟩
       ·exact Zc.wider (Zc.trans (Zc.wider (own':=fun k=>R0 k∨W1.heap.size≤k) H2.out.2.2 fun k _ h=>.inl h) (Zc.wider q2 fun k _ hk=>HRR.out k hk)) fun k hk h=>h.elim id fun h=>by omega
       ·rcases q3 k hk with h | h
        ·exact HRR.out k h
        ·exact .inr (Nat.le_trans H2.out.2.2.size h)
      case measure=>simp [intOf];omega
     ·gi_wp2_with (fail)
      refine bodyPost_ret (results_none rfl _ _ _) rfl ?_
      exact ⟨⟨_,rfl⟩,.inr ⟨_,_,hjx⟩⟩
  ·obtain rfl:j=N:=by omega
   gi_wp2_with (fail)
   go_end0
   exact ⟨⟨_,rfl⟩,.inl ⟨pre,R,by rw [HP.out,List.take_of_length_le (by rw [HSM.out.2];omega)],HJR.out⟩⟩
theorem Zlu (w:World):Calls Tryz.prog 78 #[.pointer (some ⟨l,0,none⟩)] w fun e w' =>
 e=.returned (.func (.func 139) #[] #[.pointer (some ⟨w.heap.size,0,none⟩)])∧w.alloc (.cells #[.pointer (some ⟨l,0,none⟩)] 29)=w':=by
 go_enter Tryz.func78,Tryz.ntmps78
 go_wp2_with (fail)
 go_ret
 exact ⟨rfl,rfl⟩
structure ClIn (B:Nat) (w0 w2:World) (d l:Nat) (out:Nat→Prop) (A:Option Addr) (n c:Nat) (L:Lg) (T S:Nat) (pre:List Nm) (R:Nat→Prop) (w:World):Prop where
 lt:∀ k,R k→k < w.heap.size
 up:∀ k,k < w2.heap.size→R k→B≤k∧¬ lgO l A out k
 dn:∀ k,k < w2.heap.size→B≤k→¬ lgO l A out k→R k
 at_:LgAt B w0 w d l (fun k=>out k∨(w2.heap.size≤k∧k < w.heap.size∧¬ R k)) A n c (L.on (Z7 pre L.dk))
 ok:LOk (T+pre.length) S (Z7 pre L.dk)
 st:Stays B out w2 w
 sz:w2.heap.size≤w.heap.size
theorem ClIn.keep {w2 wa wb:World} {pre:List Nm} {R:Nat→Prop} (h:ClIn B w0 w2 d l out A n c L T S pre R wa) (hout:∀ k,out k→k < w2.heap.size) (hB:B≤w2.heap.size) (hs:OffR w2.heap.size R wa wb):ClIn B w0 w2 d l out A n c L T S pre R wb:=by
 refine ⟨fun k hk=>Nat.lt_of_lt_of_le (h.lt k hk) hs.size,h.up,h.dn,?_,h.ok,h.st.trans (Zc.wider hs fun k _ hk=>⟨by omega,fun e=>by have:=hout k e;omega⟩),Nat.le_trans h.sz hs.size⟩
 refine (h.at_.off hs (fun k hk hlt=>.inr ⟨hk.1,hlt,hk.2⟩) fun k hk=>by omega).less fun k hk=>?_
 rcases hk with hk | ⟨h1,h2,h3⟩
 ·exact .inl (.inl hk)
 ·rcases Nat.lt_or_ge k wa.heap.size with hlt | hge
  ·exact .inl (.inr ⟨h1,hlt,h3⟩)
  ·exact .inr ⟨hge,h2⟩
theorem Zof (w:World) (h:LgAt B w0 w d l out A n c L) (hr:LgR L) (ok:LOk T S L.dk) (hT:T≤80000) (hS:S≤10000000) :
 Calls Tryz.prog 39 #[.pointer (some ⟨l,0,none⟩)] w fun e w'=>e=.returned (.tuple #[])∧LgIn B w0 w' d l out (Zeq L)∧Stays B out w w':=by
 obtain ⟨W1,hW1⟩:∃ W1,w.alloc (.cells #[.pointer (some ⟨l,0,none⟩)] 29)=W1:=⟨_,rfl⟩
 have g1:Grows w W1:=hW1 ▸ Zb _ _
 have s1:W1.heap.size=w.heap.size+1:=by rw [←hW1,World.size_alloc]
 have m1:Whole W1 w.heap.size 29 #[.pointer (some ⟨l,0,none⟩)]:=by rw [←hW1];exact Whole.made _ _ _
 obtain ⟨W2,hW2⟩:∃ W2,W1.alloc (.cells #[.pointer (some ⟨l,0,none⟩)] 29)=W2:=⟨_,rfl⟩
 have g2:Grows W1 W2:=hW2 ▸ Zb _ _
 have s2:W2.heap.size=w.heap.size+1+1:=by rw [←hW2,World.size_alloc,s1]
 have m2:Whole W2 (w.heap.size+1) 29 #[.pointer (some ⟨l,0,none⟩)]:=by rw [←hW2,←s1];exact Whole.made _ _ _
 have b0:=m1.cell 0
 simp only [List.getElem?_toArray,List.getElem?_cons_zero] at b0
 have hm:=h.more (Grows.trans g1 g2)
 obtain ⟨out',hout'⟩:∃ o:Nat→Prop,(fun k=>out k∨(w.heap.size≤k∧k < W2.heap.size))=o:=⟨_,rfl⟩
 rw [hout'] at hm
 have hlow:B≤w.heap.size:=h.dk.size
 have hin:∀ k,out k→out' k:=fun k hk=>by rw [←hout'];exact .inl hk
 have hbx:∀ k,w.heap.size≤k→k < W2.heap.size→out' k:=fun k h1 h2=>by rw [←hout'];exact .inr ⟨h1,h2⟩
 have hnm:∀ x,x∈(L.dk.names.map (·.1)).filter (Yd L)→x.length≤1000000:=fun x hx=>by have:=ok.small x (List.mem_filter.1 hx).1;omega
 have hfl:((L.dk.names.map (·.1)).filter (Yd L)).length≤T:=by
  have h1:=List.length_filter_le (Yd L) (L.dk.names.map (·.1))
  have h2:L.dk.names.length≤T:=by obtain ⟨P,h⟩:=ok;exact h.names
  rw [List.length_map] at h1
  omega
 have HG:=hid (fun m=>Ziq m (w.heap.size+1) W2 hm m2 hr ok (by omega) (by omega))
 have hi0:ClIn B w0 W2 d l out' A n c L T S [] (fun k=>B≤k∧k < W2.heap.size∧¬ lgO l A out' k) W2 :=
  ⟨fun k hk=>hk.2.1,fun k _ hk=>⟨hk.1,hk.2.2⟩,fun k h1 h2 h3=>⟨h2,h1,h3⟩,hm.less fun k hk=>hk.elim id fun hk=>by omega,ok,Stays.grows (Grows.refl _),Nat.le_refl _⟩
 have HI0:=hid hi0
 have HM:=hid hm
 have HX:=hid (And.intro g1 (And.intro g2 (And.intro m1 (And.intro m2 (And.intro s1 s2)))))
 have HIN:=hid (And.intro hin (And.intro hbx (And.intro hlow (And.intro hnm (And.intro hfl (And.intro hT hS))))))
 have HW2:=hid hW2
 obtain ⟨fl,hfle⟩:∃ fl,(L.dk.names.map (·.1)).filter (Yd L)=fl:=⟨_,rfl⟩
 have hcl:Zeq L=L.on (Z7 fl L.dk):=by unfold Zeq;rw [hfle]
 rw [hcl]
 rw [hfle] at HG HIN
 clear h hr ok g1 g2 m1 m2 s2 hm hin hbx hnm hfl hi0 hW2 hcl hlow hout'
 refine (callsIn_wide (n:=3)).1 ?_
 refine callsIn_of_wp_marks Tryz.func39 rfl trivial ?_ rfl
 simp only [Tryz.ntmps39,List.size_toArray,List.length_cons,List.length_nil,Nat.reduceAdd,Nat.reduceSub,Array.replicate_succ,Array.replicate_zero,List.push_toArray,List.append_toArray,List.nil_append,List.cons_append]
 gi_wp2_with (first | rw [hW1] | fail)
 refine ⟨trivial,(callsIn_wide.2 (Zlu W1)).mono ?_⟩
 rintro e V ⟨rfl,hV⟩
 obtain rfl:V=W2:=hV.symm.trans HW2.out
 clear hV
 rw [s1]
 gi_wp2_with (fail)
 refine Zhg (gf:=139) (lb:=#[.pointer (some ⟨w.heap.size+1,0,none⟩)]) rfl (enters_of Tryz.func139 (by kernel_rfl) rfl) (HG.out _) (fun _=>rfl)
  (fun k=>B≤k∧k < V.heap.size∧¬ lgO l A out' k) ?dead (ClIn B w0 V d l out' A n c L T S) (fun _ _ _=>False) (fun s R A' h k hk=>h.lt k hk)
  (fun s R A' B' h hs=>h.keep (fun k hk=>HM.out.dk.lt (.inl hk)) HM.out.dk.size hs) (fun _ _ _ _ h _=>h) HI0.out ?round ?done (fun _ _ _ _ _ _ h _=>h.elim)
 case dead =>
  rintro k hk
  have hk2:lgO l A out' k:=by
   rcases hk with rfl | rfl | hk
   ·exact .inl (HIN.out.2.1 _ (by omega) (by have:=HX.out.2.2.2.2.2;omega))
   ·exact .inr (.inl rfl)
   ·exact .inr (.inr hk)
  exact ⟨HM.out.dk.lt hk2,fun e=>e.2.2 hk2⟩
 case round =>
  rintro ly pre R x W hsz hi ⟨hgd1,hgd2,hgd3⟩
  have HGD:=hid (And.intro hgd1 (And.intro hgd2 hgd3))
  have HSZ:=hid (And.intro hsz hi.lt)
  clear hgd1 hgd2 hgd3 hi
  dsimp only
  gi_wp2_with (fail)
  refine ⟨Grows.refl _,fun Wb hsp hib=>?_⟩
  have hbox:=Zo hib.st (HX.out.2.1.whole HX.out.2.2.1) (HIN.out.2.1 _ (Nat.le_refl _) (by have:=HX.out.2.2.2.2.2;omega))
  have b1:=hbox.cell 0
  simp only [List.getElem?_toArray,List.getElem?_cons_zero] at b1
  have hrm:=Zek x (by have:=HGD.out.2.1;omega) Wb hib.at_ hib.ok.ok (by
   have h1:pre.length≤T:=by
    have h2:=HIN.out.2.2.2.2.1
    have h3:=congrArg List.length HGD.out.2.2
    rw [List.length_take] at h3
    omega
   have:=HIN.out.2.2.2.2.2
   omega) rfl
  have HRM:=hid hrm
  have HIB:=hid hib
  have HSP:=hid hsp.size
  clear hbox hrm hib hsp b0
  gi_wp2_with (fail)
  refine ⟨trivial,(CallsIn.inRound ly (callsIn_wide.2 HRM.out)).mono ?_⟩
  rintro e W' ⟨rfl,hat,hst⟩
  have HY:=hid (And.intro hat hst)
  clear hat hst b1
  gi_wp2_with (fail)
  obtain ⟨hsz,hilt⟩:=HSZ.out
  have hib:=HIB.out
  have hWb:=HSP.out
  have hWW:=HY.out.2.size
  have hn:∀ k,(R k∨(W.heap.size≤k∧k < W'.heap.size))→R k∨W.heap.size≤k:=fun k hk=>hk.imp id (·.1)
  have hwr:∀ k,B≤k→¬ lgO l A (fun k=>out' k∨(V.heap.size≤k∧k < Wb.heap.size∧¬ R k)) k→R k∨W.heap.size≤k:=fun k h1 h2=>by
   rcases Nat.lt_or_ge k V.heap.size with hlt | hge
   ·exact .inl (hib.dn k hlt h1 fun e=>h2 (e.imp .inl id))
   ·rcases Nat.lt_or_ge k Wb.heap.size with hlt | hge2
    ·exact .inl (Classical.byContradiction fun hr=>h2 (.inl (.inr ⟨hge,hlt,hr⟩)))
    ·exact .inr (by omega)
  refine ⟨fun k=>R k∨(W.heap.size≤k∧k < W'.heap.size),hn,Zc.wider HY.out.2 fun k _ hk=>hwr k hk.1 hk.2,?_⟩
  refine ⟨fun k hk=>?_,fun k hlt hk=>?_,fun k h1 h2 h3=>.inl (hib.dn k h1 h2 h3),?_,?_,hib.st.trans (Zt HY.out.2 fun k hk=>.inl (.inl hk)),Nat.le_trans hib.sz hWW⟩
  ·rcases hk with hk | hk
   ·have:=hilt k hk;omega
   ·exact hk.2
  ·exact hib.up k hlt (hk.resolve_right fun e=>by omega)
  ·have e:Z7 (pre++[x]) L.dk=((Z7 pre L.dk).remove x).1:=by rw [Zaq];rfl
   rw [e]
   refine HY.out.1.less fun k hk=>?_
   rcases hk with hk | ⟨h1,h2,h3⟩
   ·exact .inl hk
   ·refine .inr ⟨h1,Classical.byContradiction fun h=>h3 (.inr ⟨by omega,h2⟩),fun h=>h3 (.inl h)⟩
  ·have e:Z7 (pre++[x]) L.dk=((Z7 pre L.dk).remove x).1:=by rw [Zaq];rfl
   rw [e,List.length_append]
   exact (hib.ok.remove x).mono (by simp only [List.length_singleton];omega) (Nat.le_refl _)
 case done =>
  intro D xs R W hD hnD hS hi hK
  subst hS
  have HA:=hid (And.intro hi (And.intro hK (And.intro hD hnD)))
  clear hi hK hD hnD
  gi_wp2_with (fail)
  obtain ⟨hi,hK,hD,hnD⟩:=HA.out
  have hDs:Zc (fun k=>k=D) W (W.putObj D (.deferred none)):=⟨rfl,rfl,rfl,by simp,fun k _ hk=>World.putObj_heap_other hk⟩
  refine ⟨by simp,.inl ⟨_,_,rfl,run_takeDeferred hK,?_⟩⟩
  have hfin:=hi.keep (fun k hk=>HM.out.dk.lt (.inl hk)) HM.out.dk.size (wb:=W.putObj D (.deferred none)) (Zc.wider hDs fun k _ hk=>by subst hk;exact ⟨hD,hnD⟩)
  refine ⟨.tuple #[],by simp [results,Tryz.results39,go_sem],rfl,(hfin.at_.less fun k hk=>.inl (HIN.out.1 k hk)).in,?_⟩
  exact (Stays.grows (Grows.trans HX.out.1 HX.out.2.1)).trans (Zt hfin.st HIN.out.1)
end
end Go.Proofs.YtkelafkbmnjpeaaGreat
set_option maxHeartbeats 4000000
set_option maxRecDepth 100000
namespace Go.Proofs.YtkelafkbmnjpeaaGreat
open Go.Lib (hid)
open Go.RowKit
attribute [local irreducible] Go.wpQuiet
theorem Zog (A:Option Addr) (n c:Nat) (xs:List Int) (x:Int) (w:World) (ha:Row w w.heap.size A n (xs.map iV)) (hn:n≤1000000000000) :
 Calls Tryz.prog 41 #[.slice A n c,.int .i64 x] w fun e w'=>e=.returned (.bool (decide (x∈xs)))∧Grows w w':=by
 have hlx:xs.length=n:=by have:=ha.len;simpa using this
 obtain ⟨b,hbb⟩:∃ b,decide (x∈xs)=b:=⟨_,rfl⟩
 rw [hbb]
 have HBB:=hid hbb
 have HX:=hid ha
 clear ha hbb
 go_enter Tryz.func41,Tryz.ntmps41
 go_wp2_with (fail)
 go_loopw [5] (fun i wr=>∃ (j:Nat),j≤n∧i=.int .i64 (j:Int)∧Hid (¬ x∈xs.take j)∧Hid (Grows w wr)) (fun i _=>n - (intOf i).toNat)
 case atStart=>exact ⟨0,by omega,rfl,hid (by simp),hid (Grows.refl _)⟩
 case round =>
  obtain ⟨j,hj,rfl,HT,HG⟩:=hrel
  by_cases hlt:j < n
  ·have hlt':(j:Int) < (n:Int):=by omega
   have hj0:(0:Int)≤(j:Int):=by omega
   have e5:IntKind.i64.wrap ((j:Int)+1)=(j:Int)+1:=IntWalk.i64_in _ ⟨by omega,by omega⟩
   obtain ⟨ad,y,rfl,hc1,hx1,hb1⟩:=Zij HX.out hlt
   have HC1:=hid (show ∀ w',Grows wr w'→w'.cell? (ad.add j)=some (.int .i64 y) from fun w' h=>by
    rw [(Grows.trans HG.out h).cell (by rw [Zk];exact hb1)];exact hc1)
   have HXY:=hid hx1
   clear hc1 hx1
   have c1:=HC1.out wr (Grows.refl _)
   have HG5:=HG
   by_cases hxy:y=x
   ·have hxf:(y==x)=true:=by rw [beq_iff_eq];exact hxy
    have HBF:=hid (show b=true by
     rw [←HBB.out]
     exact decide_eq_true (hxy ▸ List.mem_of_getElem? HXY.out))
    clear hxy
    go_wp2_with (fail)
    go_ret
    rw [HBF.out]
    exact ⟨rfl,HG5.out⟩
   ·have hxf:(y==x)=false:=by rw [beq_eq_false_iff_ne];exact hxy
    have HN:=hid (show ¬ x∈xs.take (j+1) by
     rw [List.take_add_one,HXY.out]
     intro h
     rcases List.mem_append.1 h with h | h
     ·exact HT.out h
     ·exact hxy (List.mem_singleton.1 h).symm)
    clear hxy
    go_wp2_with (fail)
    exact ⟨⟨j+1,by omega,rfl,HN,HG5⟩,by simp [intOf];omega⟩
  ·obtain rfl:j=n:=by omega
   have HBT:=hid (show b=false by
    rw [←HBB.out]
    refine decide_eq_false fun h=>HT.out ?_
    rw [List.take_of_length_le (by omega)]
    exact h)
   go_wp2_with (fail)
   go_ret
   rw [HBT.out]
   exact ⟨rfl,HG.out⟩
end Go.Proofs.YtkelafkbmnjpeaaGreat
namespace Go.Proofs.YtkelafkbmnjpeaaGreat
open Go.ChangeShapes Go.WideShapes Go.ChangeAt Go.RowKit
theorem Zf5 {H:Type} {P:Program} {e:TypeId} {x:Nat} {d:DataW H}:∀ {l:List (DataW H)},d∈l→x∈d.weights P e→x∈DataW.weightsAll P e l
 | _ :: _,h,hx=>by
   unfold DataW.weightsAll
   rcases List.mem_cons.1 h with rfl | h
   ·exact List.mem_append_left _ hx
   ·exact List.mem_append_right _ (Zf5 h hx)
section
variable {H:Type} {enc:TypeId×Value→H} {P:Program} {W:World} {base:Nat} {r:Reach}
end
end Go.Proofs.YtkelafkbmnjpeaaGreat
