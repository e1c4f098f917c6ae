/-
  Texts that the statements lean on, one behind the other.
-/
import Derived.Test.YtkelafkbmnjpeaaGreatMG26
import Derived.Test.YtkelafkbmnjpeaaGreatMG25
import Derived.Test.YtkelafkbmnjpeaaGreatMG19
import Derived.Test.YtkelafkbmnjpeaaGreatMG01
import Derived.StillTail
import Derived.Test.YtkelafkbmnjpeaaGreatMnTurn
import Derived.Test.YtkelafkbmnjpeaaGreatMG03
set_option linter.unusedVariables false
set_option linter.unusedSimpArgs false
set_option maxHeartbeats 4000000
set_option maxRecDepth 100000
namespace Go.Proofs.YtkelafkbmnjpeaaGreat
open Go.Lib (hid)
open Go.RowKit
theorem Zq1 {xs:List Int} {j:Nat} {x:Int} (hx:xs[j]?=some x):numsB (xs.take (j+1))=numsB (xs.take j)++numB x 4:=by
 obtain ⟨h1,h2⟩:=List.getElem?_eq_some_iff.1 hx
 rw [List.take_succ_eq_append_getElem h1,Znd,h2]
theorem Zq2 (w:World) (A:Option Addr) (n c:Nat) (m:Mn) (h:MnIn w A n c m) :
 Calls Tryz.prog 195 #[.agg #[.slice A n c,.int .i64 m.next]] w fun e w'=>∃ A' k c',e=.returned (.slice A' k c')∧w'.ownsRow w.heap.size 5 1 (.slice A' k c') k ((putM m).map byteV)∧Grows w w':=by
 have hwm:=Whole.made w 96 #[.slice A n c,.int .i64 m.next]
 have hgr:=Zb w (.cells #[.slice A n c,.int .i64 m.next] 96)
 obtain ⟨w1,hw1⟩:∃ x,w.alloc (.cells #[.slice A n c,.int .i64 m.next] 96)=x:=⟨_,rfl⟩
 rw [hw1] at hwm hgr
 have c0:=hwm.cell 0
 have c1:=hwm.cell 1
 simp only [Gt] at c0 c1
 have HWM:=hid hwm
 have HI:=hid (h.grow hgr)
 have HL:=hid (show m.segs.length=n from h.segs.len)
 have HG:=hid hgr
 have HR:=hid (Zdx w1 A n c m HI.out)
 obtain ⟨b,hbb⟩:∃ b,Ya m=b:=⟨_,rfl⟩
 obtain ⟨nx,hnx⟩:∃ nx,m.next=nx:=⟨_,rfl⟩
 rw [hbb,hnx] at HR
 rw [hnx] at c1 hw1 HWM
 rw [hnx]
 have HB:=hid (And.intro hbb hnx)
 obtain ⟨pm,hpm⟩:∃ pm,putM m=pm:=⟨_,rfl⟩
 rw [hpm]
 have HP:=hid hpm
 clear hwm h hgr hbb hnx hpm
 go_enter Tryz.func195,Tryz.ntmps195
 go_wp2_with (fail)
 refine HR.out.mono ?_
 rintro e w2 ⟨rfl,hg2⟩
 have HG2:=hid hg2
 have h2:=hg2.whole HWM.out
 have k0:=h2.cell 0
 have k1:=h2.cell 1
 simp only [Gt] at k0 k1
 have HW2:=hid h2
 clear hg2 c0 c1 hw1 h2 HR
 cases b with
 | false =>
   obtain rfl:pm=[]:=HP.out.symm.trans (Zl6 HB.out.1)
   go_wp2_with (fail)
   go_ret
   exact ⟨none,0,0,rfl,World.ownsRow_nil _ _ _ _,HG.out.trans HG2.out⟩
 | true =>
   have HN:=hid (show n≤1000 by have:=Zdo HB.out.1;have:=HL.out;omega)
   have HPB:=hid (show putB (bodyM m)=pm by rw [←HP.out,Zgs HB.out.1];exact Ye (Zgr HB.out.1))
   have hm3:=Whole.made w2 5 #[.int .u8 8]
   have hg3:=Zb w2 (.cells #[.int .u8 8] 5)
   have ho3:(w2.alloc (.cells #[.int .u8 8] 5)).ownsRow w2.heap.size 5 1 (.slice (some ⟨w2.heap.size,0,none⟩) 1 1) 1 (([8]:List UInt8).map byteV):=World.ownsRow_lit w2 #[.int .u8 8] 1 (Nat.le_refl _) (by unfold maxLen;omega) rfl
   have hx3:=hg3.whole HW2.out
   have HO3:=hid ho3
   have HG3:=hid hg3
   have HC3:=hid hx3
   have kk0:=hx3.cell 0
   have kk1:=hx3.cell 1
   simp only [Gt] at kk0 kk1
   clear hm3 hg3 ho3 hx3 k0 k1
   go_wp2_with (fail)
   have hpn:=Zif w2.heap.size (some ⟨w2.heap.size,0,none⟩) 1 1 [8] nx 4 (w2.alloc (.cells #[.int .u8 8] 5)) HO3.out HG3.out.size (by omega) (by omega)
   refine hpn.mono ?_
   clear hpn
   rintro e w4 ⟨A4,c4,rfl,ho4,hb4,hs4⟩
   have HG4:=hid (show Grows w2 w4 from Below.trans HG3.out hb4)
   have h4:=HG4.out.whole HW2.out
   have q0:=h4.cell 0
   have q1:=h4.cell 1
   simp only [Gt] at q0 q1
   have HO4:=hid ho4
   clear ho4 hb4 hs4 h4 kk0 kk1
   go_wp2_with (fail)
   have hpn:=Zif w2.heap.size A4 5 c4 ([8]++numB nx 4) (n:Int) 2 w4 HO4.out HG4.out.size (by omega) (by omega)
   refine hpn.mono ?_
   clear hpn
   rintro e w5 ⟨A5,c5,rfl,ho5,hb5,hs5⟩
   have HG5:=hid (show Grows w2 w5 from Below.trans HG4.out hb5)
   have h5:=HG5.out.whole HW2.out
   have r0:=h5.cell 0
   have r1:=h5.cell 1
   simp only [Gt] at r0 r1
   have HO5:=hid (show w5.ownsRow w2.heap.size 5 1 (.slice A5 7 c5) 7 ((headM m).map byteV) from by
    unfold headM
    rw [HB.out.2,HL.out]
    exact ho5)
   clear ho5 hb5 hs5 h5 q0 q1
   go_wp2_with (fail)
   go_loopw [3,22] (fun v i wr=>∃ (A:Option Addr) (c j k:Nat),j≤n∧i=.int .i64 (j:Nat)∧v=.slice A k c∧Hid (k=7+4*j)∧Hid (wr.ownsRow w2.heap.size 5 1 (.slice A k c) k ((headM m++numsB (m.segs.take j)).map byteV))∧Hid (Grows w2 wr)) (fun _ i _=>n - (intOf i).toNat)
   case atStart=>exact ⟨A5,c5,0,7,by omega,rfl,rfl,hid rfl,hid (by simpa [numsB] using HO5.out),HG5⟩
   case round =>
    obtain ⟨A6,c6,j,k6,hj,rfl,rfl,HK,HR,HW⟩:=hrel
    clear r0 r1
    by_cases hlt:j < n
    ·have hlt':(j:Int) < (n:Int):=by omega
     have hj0:(0:Int)≤(j:Int):=by omega
     have e5:IntKind.i64.wrap ((j:Int)+1)=(j:Int)+1:=IntWalk.i64_in _ ⟨by omega,by have:=HN.out;omega⟩
     obtain ⟨ad,x,rfl,hc,hx,hbk⟩:=((HI.out.segs.grow HG2.out).grow HW.out).get hlt
     have HX:=hid (Zq1 hx)
     clear hx hbk
     go_wp2_with (fail)
     have hpn:=Zif w2.heap.size A6 k6 c6 (headM m++numsB (m.segs.take j)) x 4 wr HR.out HW.out.size (by have:=HK.out;have:=HN.out;omega) (by omega)
     refine hpn.mono ?_
     clear hpn
     rintro e w7 ⟨A7,c7,rfl,ho7,hb7,hs7⟩
     have HO7:=hid ho7
     have HB7:=hid (show Grows w2 w7 from Below.trans HW.out hb7)
     clear ho7 hb7 hs7
     go_wp2_with (fail)
     go_roundw
     case rel=>exact ⟨A7,c7,j+1,k6+4,by omega,by first | rfl | go_num,rfl,hid (by have:=HK.out;omega),hid (by rw [HX.out,←List.append_assoc];exact HO7.out),HB7⟩
     case measure=>simp [intOf];omega
    ·obtain rfl:j=n:=by omega
     have hlt':¬ ((j:Int) < (j:Int)):=by omega
     have hr:=HR.out
     rw [List.take_of_length_le (by rw [HL.out];exact Nat.le_refl _)] at hr
     have hfp:=Za9 A6 k6 c6 (bodyM m) wr (Sl.owned hr) (by have:=HK.out;have:=HN.out;unfold maxLen;omega)
     rw [HPB.out] at hfp
     have HF:=hid hfp
     clear hr hfp
     go_wp2_with (fail)
     refine HF.out.mono ?_
     rintro e w8 ⟨A8,k8,c8,rfl,ho8,hb8⟩
     have HO8:=hid (Zh ho8 (show w.heap.size≤wr.heap.size from Nat.le_trans (Nat.le_trans HG.out.size HG2.out.size) HW.out.size))
     have HG8:=hid (show Grows w w8 from HG.out.trans (HG2.out.trans (HW.out.trans hb8)))
     clear ho8 hb8
     go_wp2_with (fail)
     go_ret
     exact ⟨A8,k8,c8,rfl,HO8.out,HG8.out⟩
end Go.Proofs.YtkelafkbmnjpeaaGreat
namespace Go.Proofs.YtkelafkbmnjpeaaGreat
open Go.RowKit
def did (b:Nat→Bool) (i:Nat):Nat→Bool:=fun k=>if k=i then true else b k
theorem Ztf (b:Nat→Bool) (i:Nat):did b i i=true:=if_pos rfl
section
variable {P:Program} {ops:Array Oper} {md:Region.Mode} {Q:Exit→Act→World→Prop}
def bitsOf (listed:Array Bool):Nat→Bool:=fun k=>listed.getD k false
theorem Ztg (listed:Array Bool) (i:Nat) (hi:i < listed.size):bitsOf (listed.setIfInBounds i true)=did (bitsOf listed) i:=by
 funext k
 unfold bitsOf did
 by_cases h:k=i
 ·subst h
  simp [hi]
 ·rw [if_neg h]
  simp [Array.getD_eq_getD_getElem?,Array.getElem?_setIfInBounds,h,Ne.symm h]
def leftN (ops:Array Oper) (listed:Array Bool):Nat:=((List.range ops.size).filter fun i=>!bitsOf listed i).length
theorem Zfr {α:Type} {p q:α→Bool}:∀ {l:List α} {x:α},x∈l→p x=true→q x=false→(∀ y,q y=true→p y=true)→(l.filter q).length < (l.filter p).length
 | y :: l,x,hx,hp,hq,h=>by
   rcases List.mem_cons.1 hx with rfl | hx
   ·rw [List.filter_cons_of_pos hp,List.filter_cons_of_neg (by simp [hq]),List.length_cons]
    exact Nat.lt_succ_of_le (by
     clear hx hp hq
     induction l with
     | nil=>simp
     | cons z l ih =>
       by_cases hz:q z=true
       ·rw [List.filter_cons_of_pos hz,List.filter_cons_of_pos (h z hz)]
        simpa using ih
       ·rw [List.filter_cons_of_neg hz]
        by_cases hz2:p z=true
        ·rw [List.filter_cons_of_pos hz2,List.length_cons];omega
        ·rw [List.filter_cons_of_neg hz2];exact ih)
   ·have ih:=Zfr hx hp hq h
    by_cases hz:q y=true
    ·rw [List.filter_cons_of_pos hz,List.filter_cons_of_pos (h y hz)]
     simpa using ih
    ·rw [List.filter_cons_of_neg hz]
     by_cases hz2:p y=true
     ·rw [List.filter_cons_of_pos hz2,List.length_cons];omega
     ·rw [List.filter_cons_of_neg hz2];exact ih
def Zq3 (P:Program) (md:Region.Mode) (ops:Array Oper) (Q:Exit→Act→World→Prop) (Inv:(Nat→Bool)→Act→World→Prop):Prop :=
 ∀ (i:Nat) (o:Oper) (b:Nat→Bool) (a:Act) (w:World),ops[i]?=some o→b i=false→(∀ e∈o.after,Region.binds md e=true→b e.on=true)→Inv b a w →
  if Region.wanted o (yielded ops a.tmps) then o.wp P a w (Inv (did b i)) Q else Inv (did b i) (a.put o.dst undef) w
theorem Zj2 {listed:Array Bool} {i:Nat} (h:i∈Region.ready md ops listed) (hs:listed.size=ops.size):∃ o,ops[i]?=some o∧bitsOf listed i=false∧∀ e∈o.after,Region.binds md e=true→bitsOf listed e.on=true:=by
 unfold Region.ready at h
 obtain ⟨h1,h2⟩:=List.mem_filter.1 h
 have hi:i < ops.size:=List.mem_range.1 h1
 rw [Bool.and_eq_true] at h2
 obtain ⟨h2,h3⟩:=h2
 rw [Array.getElem?_eq_getElem hi] at h3
 simp only [Option.map_some,Option.getD_some] at h3
 refine ⟨ops[i],Array.getElem?_eq_getElem hi,?_,fun e he hb=>?_⟩
 ·unfold bitsOf
  have:listed.getD i true=false:=by simpa using h2
  simp only [Array.getD_eq_getD_getElem?,Array.getElem?_eq_getElem (hs ▸ hi),Option.getD_some] at this ⊢
  exact this
 ·have:=Array.all_eq_true_iff_forall_mem.1 h3 e he
  simp only [hb,Bool.not_true,Bool.false_or] at this
  exact this
theorem Zq4 {Inv:(Nat→Bool)→Act→World→Prop} (hst:Zq3 P md ops Q Inv) (hend:∀ b a w,Inv b a w→(∀ i,i < ops.size→(∃ o,ops[i]?=some o∧∃ e∈o.after,Region.binds md e=true∧b e.on=false)∨b i=true)→Q .normal a w) :
 ∀ (fuel:Nat) (listed:Array Bool) (a:Act) (w:World),listed.size=ops.size→leftN ops listed≤fuel→Inv (bitsOf listed) a w→wpAny P md ops Q fuel listed a w:=by
 have hE:∀ (listed:Array Bool) (a:Act) (w:World),listed.size=ops.size→Inv (bitsOf listed) a w→Region.ready md ops listed=[]→Q .normal a w:=fun listed a w hs hI hr=>by
  refine hend _ a w hI fun i hi=>?_
  have hn:i∉Region.ready md ops listed:=by rw [hr];simp
  unfold Region.ready at hn
  rw [List.mem_filter,not_and] at hn
  have h1:=hn (List.mem_range.2 hi)
  by_cases hb:bitsOf listed i=true
  ·exact .inr hb
  ·refine .inl ⟨ops[i],Array.getElem?_eq_getElem hi,?_⟩
   have hg:listed.getD i true=false:=by
    unfold bitsOf at hb
    simp only [Array.getD_eq_getD_getElem?,Array.getElem?_eq_getElem (hs ▸ hi),Option.getD_some] at hb ⊢
    simpa using hb
   refine Classical.byContradiction fun hne=>h1 ?_
   rw [hg,Array.getElem?_eq_getElem hi]
   simp only [Bool.not_false,Bool.true_and,Option.map_some,Option.getD_some]
   refine Array.all_eq_true_iff_forall_mem.2 fun e he=>?_
   cases hbd:Region.binds md e with
   | false=>rfl
   | true =>
     cases hl:listed.getD e.on false with
     | true=>rfl
     | false=>exact absurd ⟨e,he,hbd,hl⟩ hne
 intro fuel
 induction fuel with
 | zero =>
   intro listed a w hs hl hI
   have h0:Region.ready md ops listed=[]:=by
    rcases hr:Region.ready md ops listed with _ | ⟨i,r⟩
    ·rfl
    ·exfalso
     have hm:i∈Region.ready md ops listed:=by rw [hr];exact List.mem_cons_self ..
     obtain ⟨o,h1,h2,_⟩:=Zj2 hm hs
     have hi:=(Array.getElem?_eq_some_iff.1 h1).1
     have:i∈(List.range ops.size).filter fun i=>!bitsOf listed i:=List.mem_filter.2 ⟨List.mem_range.2 hi,by rw [h2];rfl⟩
     unfold leftN at hl
     have:=List.length_pos_of_mem this
     omega
   exact ⟨h0,hE listed a w hs hI h0⟩
 | succ fuel ih =>
   intro listed a w hs hl hI
   refine ⟨hE listed a w hs hI,fun i hi=>?_⟩
   obtain ⟨o,h1,h2,h3⟩:=Zj2 hi hs
   have hi':=(Array.getElem?_eq_some_iff.1 h1).1
   have key:∀ a' w',Inv (did (bitsOf listed) i) a' w'→wpAny P md ops Q fuel (listed.setIfInBounds i true) a' w':=fun a' w' h=>by
    have hb:=Ztg listed i (hs ▸ hi')
    refine ih _ a' w' (by simpa using hs) ?_ (hb ▸ h)
    unfold leftN at hl ⊢
    rw [hb]
    have:=Zfr (l:=List.range ops.size) (p:=fun k=>!bitsOf listed k) (q:=fun k=>!did (bitsOf listed) i k) (List.mem_range.2 hi') (by rw [h2];rfl) (by rw [Ztf];rfl) (fun k hk=>by
     unfold did at hk
     split at hk
     ·cases hk
     ·exact hk)
    omega
   have hs1:=hst i o (bitsOf listed) a w h1 h2 h3 hI
   unfold wpOp
   simp only [h1]
   split
   ·rename_i hw
    rw [if_pos hw] at hs1
    exact .inl (Oper.wp_mono (fun a' w' h=>key a' w' h) hs1)
   ·rename_i hw
    rw [if_neg hw] at hs1
    exact key _ _ hs1
theorem Zih {id:Nat} {a:Act} {w:World} (Inv:(Nat→Bool)→Act→World→Prop) (hm:P.follows .mixedOrders=true) (h0:Inv (fun _=>false) a { w with drawn:=w.drawn+1 }) (hst:Zq3 P .any ops Q Inv)
 (hend:∀ b a w,Inv b a w→(∀ i,i < ops.size→(∃ o,ops[i]?=some o∧∃ e∈o.after,Region.binds .any e=true∧b e.on=false)∨b i=true)→Q .normal a w):(Code.region id ops true).wp P Q a w:=by
 refine wp_region_any hm (Zq4 hst hend ops.size _ a _ (by simp) ?_ ?_)
 ·unfold leftN
  exact Nat.le_trans (List.length_filter_le _ _) (by simp)
 ·have:bitsOf (Array.replicate ops.size false)=fun _=>false:=by
   funext k
   unfold bitsOf
   simp [Array.getD_eq_getD_getElem?,Array.getElem?_replicate]
   split <;> rfl
  rw [this]
  exact h0
theorem Zth {b:Nat→Bool} (hord:∀ (i:Nat) (o:Oper),ops[i]?=some o→∀ e∈o.after,e.on < i) (h:∀ i,i < ops.size→(∃ o,ops[i]?=some o∧∃ e∈o.after,Region.binds md e=true∧b e.on=false)∨b i=true):∀ i,i < ops.size→b i=true:=by
 intro i
 induction i using Nat.strongRecOn with
 | _ i ih =>
   intro hi
   rcases h i hi with ⟨o,h1,e,h2,_,h4⟩ | h
   ·have h5:=hord i o h1 e h2
    rw [ih e.on h5 (by omega)] at h4
    cases h4
   ·exact h
theorem Zq5 {o:Oper} {a:Act} {w w':World} {v:Value} {K:Act→World→Prop} (h:(execOp a.eval o).run P w=.ok (.value v) w') (hk:K (a.put o.dst v) w'):o.wp P a w K Q:=by
 unfold Oper.wp
 rw [h]
 exact hk
theorem Zq6 {o:Oper} {a:Act} {w w':World} {K:Act→World→Prop} (h:(execOp a.eval o).run P w=.ok .skip w') (hk:K (a.put o.dst undef) w'):o.wp P a w K Q:=by
 unfold Oper.wp
 rw [h]
 exact hk
theorem Zq7 {o:Oper} {a:Act} {w w':World} {f:FuncId} {args:Array Value} {K:Act→World→Prop} (h:(execOp a.eval o).run P w=.ok (.enter f args) w') (hc:Calls P f args w' fun e w''=>∃ v,e=.returned v∧K (a.put o.dst v) w''):o.wp P a w K Q:=by
 unfold Oper.wp
 rw [h]
 refine Calls.mono hc fun e w'' hh=>?_
 obtain ⟨v,rfl,h2⟩:=hh
 exact h2
end
end Go.Proofs.YtkelafkbmnjpeaaGreat
set_option maxHeartbeats 8000000
set_option maxRecDepth 100000
namespace Go.Proofs.YtkelafkbmnjpeaaGreat
open Go.Lib (hid)
open Go.RowKit Go.Maps Go.WideMaps
def frSv (d bd bm:Nat) (A:Option Addr) (n c:Nat) (nx:Int) (v5 v6 v10 v11 v12:Value):Array Value :=
 #[.pointer (some ⟨d,0,none⟩),.agg #[.slice A n c,.int .i64 nx],.pointer (some ⟨bd,0,none⟩),.pointer (some ⟨bm,0,none⟩),.int .i64 0,v5,v6,.agg #[.slice A n c,.int .i64 nx],.bool true,.bool false,v10,v11,v12,
  undef,undef,undef,undef,undef,undef,undef,undef,undef,undef,undef,undef,undef,undef,undef]
def Inv3 (W:World) (d bd bm:Nat) (A:Option Addr) (n c:Nat) (nx:Int) (s:ByteArray) (bs:List UInt8) (b:Nat→Bool) (a:Act) (w:World):Prop :=
 ∃ (g5 g6:Nat) (PA:Option Addr) (pn pc:Nat),
  a={ tmps:=frSv d bd bm A n c nx (cond (b 3) (.pointer (some ⟨g5,0,none⟩)) undef) (cond (b 4) (.pointer (some ⟨g6,0,none⟩)) undef) (cond (b 0) (.string s) undef) (cond (b 1) (.agg #[.slice A n c,.int .i64 nx]) undef) (cond (b 2) (.slice PA pn pc) undef),defers:=[] } ∧
  Grows W w∧(b 2=true→w.ownsRow W.heap.size 5 1 (.slice PA pn pc) pn (bs.map byteV)) ∧
  (b 3=true→W.heap.size≤g5∧Whole w g5 9 #[cond (b 5) (.string s) (.string ⟨#[]⟩)]) ∧
  (b 4=true→W.heap.size≤g6∧Whole w g6 37 #[cond (b 6) (.slice PA pn pc) (.slice none 0 0)]) ∧
  (b 5=true→b 3=true)∧(b 6=true→b 4=true)∧(b 6=true→b 2=true)
theorem Zd6 {w:World} {g g' t t':Nat} {cs cs':Array Value} (h:Whole w g t cs) (h':Whole w g' t' cs') (hne:t≠t'):g≠g':=fun e=>by
 subst e
 have:=h.symm.trans h'
 injection this with this
 injection this with _ this
 exact hne this
theorem Zha {w:World} {base:Nat} {e t:TypeId} {size n g:Nat} {v:Value} {xs:List Value} {cs:Array Value} (h:w.ownsRow base e size v n xs) (h':Whole w g t cs) (hne:t≠e):∀ k,v.ownBlock=some k→k≠g:=fun k hk e'=>by
 rcases h.2 with ⟨rfl,_⟩ | ⟨g2,cap,cur,rfl,_,hh,_⟩
 ·simp [Value.ownBlock] at hk
 ·simp [Value.ownBlock] at hk
  subst hk e'
  have:=(show w.heap[g2]?=some (.cells cur e (0,0)) from hh).symm.trans h'
  injection this with this
  injection this with _ this
  exact hne this.symm
theorem Zqz {W w:World} {g:Nat} (hG:Grows W w) (hg:W.heap.size≤g) (u:Value):Grows W (w.setCell ⟨g,0,none⟩ u)∧∀ k,k < w.heap.size→k≠g→(w.setCell ⟨g,0,none⟩ u).heap[k]?=w.heap[k]? :=
 ⟨Below.setCell (p:=⟨g,0,none⟩) hG hg u,fun k hk hne=>((Zc.refl (fun q=>q=g) w).setCell (p:=⟨g,0,none⟩) rfl u).same k hk hne⟩
theorem Zig {P:Program} {ops:Array Oper} {W:World} {Q:Act→World→Prop} {o:Oper} {rest:List Oper} {fs:List (Fact Grows)} {ks:Known} {a:Act} {F:Fact Grows} (f:FuncId) (args:Array Value) (hw:Region.wanted o (yielded ops a.tmps)=true) (h1:∀ w,Grows W w→(execOp a.eval o).run P w=.ok (.enter f args) w)
 (hc:∀ w,Grows W w→ks.for (o.looksAt ops) w→Calls P f args w fun e w'=>Grows w w'∧∃ x,e=.returned (F.val x)∧F.R x w') (h2:∀ x,wpF P ops Grows W Q rest fs ((o.dst,F.R x) :: ks) (a.put o.dst (F.val x))):wpF P ops Grows W Q (o :: rest) (F :: fs) ks a:=by
 unfold wpF fStep
 rw [if_pos hw]
 refine ⟨fun w hW hk=>?_,h2⟩
 unfold gives
 rw [h1 w hW]
 exact hc w hW hk
def Zej (W:World) (u:Value) (s:ByteArray):Fact Grows:=⟨Nat,0,fun g=>.func (.func 263) #[] #[.pointer (some ⟨g,0,none⟩),.pointer (some ⟨g+1,0,none⟩)],
 fun g w=>W.heap.size≤g∧Whole w g 126 #[u]∧Whole w (g+1) 9 #[.string s],fun g w w' h hg=>⟨h.1,hg.whole h.2.1,hg.whole h.2.2⟩⟩
theorem Zmq {w:World} {b:Nat} {A:Option Addr} {n c:Nat} {bs:List UInt8} (h:w.ownsRow b 5 1 (.slice A n c) n (bs.map byteV)):∀ ad,A=some ad→b≤ad.block∧ad.block < w.heap.size:=fun ad e=>by
 subst e
 exact h.lt ad.block rfl
theorem Stays.lessM {B:Nat} {out out':Nat→Prop} {w w':World} (hs:Stays B out' w w') (ho:∀ k,out k→out' k):Stays B out w w':=hs.wider fun k _ hk=>⟨hk.1,fun e=>hk.2 (ho k e)⟩
theorem Zt5 {ops:Array Oper} {W:World} {Q:Act→World→Prop} {o:Oper} {rest:List Oper} {fs:List (Fact Grows)} {ks:Known} {a:Act} (u:Value) (s:ByteArray) (f:FuncId) (args:Array Value) (hw:Region.wanted o (yielded ops a.tmps)=true) (h1:∀ w,Grows W w→(execOp a.eval o).run Tryz.prog w=.ok (.enter f args) w)
 (hc:∀ w,Grows W w→Calls Tryz.prog f args w fun e w'=>Grows w w'∧∃ g,e=.returned (.func (.func 263) #[] #[.pointer (some ⟨g,0,none⟩),.pointer (some ⟨g+1,0,none⟩)])∧w.heap.size≤g∧Whole w' g 126 #[u]∧Whole w' (g+1) 9 #[.string s])
 (h2:∀ g:Nat,wpF Tryz.prog ops Grows W Q rest fs ((o.dst,fun w=>W.heap.size≤g∧Whole w g 126 #[u]∧Whole w (g+1) 9 #[.string s]) :: ks) (a.put o.dst (.func (.func 263) #[] #[.pointer (some ⟨g,0,none⟩),.pointer (some ⟨g+1,0,none⟩)]))) :
 wpF Tryz.prog ops Grows W Q (o :: rest) (Zej W u s :: fs) ks a :=
 Zig (F:=Zej W u s) f args hw h1 (fun w hW _=>(hc w hW).mono fun e wy ⟨hg,g,he,hle,h1,h2⟩=>⟨hg,g,he,Nat.le_trans hW.size hle,h1,h2⟩) h2
theorem Zmr (w:World) (fn:Go.Fn) (us vs:Array Value) (s:ByteArray) {u:Value} (hu:u=.func fn us vs):Calls Tryz.prog 199 #[u,.string s] w fun e w'=>Grows w w'∧∃ g,e=.returned (.func (.func 263) #[] #[.pointer (some ⟨g,0,none⟩),.pointer (some ⟨g+1,0,none⟩)]) ∧
 w.heap.size≤g∧Whole w' g 126 #[u]∧Whole w' (g+1) 9 #[.string s]:=by
 subst hu
 have h1:=Whole.made w 126 #[.func fn us vs]
 have h2:=Whole.made (w.alloc (.cells #[.func fn us vs] 126)) 9 #[.string s]
 rw [World.size_alloc] at h2
 have h3:=(Zb (w.alloc (.cells #[.func fn us vs] 126)) (.cells #[.string s] 9)).whole h1
 have H:=hid (And.intro h2 h3)
 clear h1 h2 h3
 go_enter Tryz.func199,Tryz.ntmps199
 go_wp2_with (fail)
 go_ret
 exact ⟨Grows.trans (Zb _ _) (Zb _ _),w.heap.size,rfl,Nat.le_refl _,H.out.2,H.out.1⟩
section
variable {B d K:Nat} {w0 w:World} {out:Nat→Prop} {m:Dk}
theorem Zq0 (w:World) (A:Option Addr) (n c:Nat) (x:Mn) (hx:MnIn w A n c x) (h:DkIn B w0 w d out m) (ok:DkOk K m) (hK:K≤90000000) :
 Calls Tryz.prog 134 #[.pointer (some ⟨d,0,none⟩),.agg #[.slice A n c,.int .i64 x.next]] w (Zdg B w0 d out w (saveP m x)):=by
 have hg1:=Zb w (.cells #[.pointer (some ⟨d,0,none⟩)] 24)
 have hm1:=Whole.made w 24 #[.pointer (some ⟨d,0,none⟩)]
 obtain ⟨w1,hw1⟩:∃ y,w.alloc (.cells #[.pointer (some ⟨d,0,none⟩)] 24)=y:=⟨_,rfl⟩
 rw [hw1] at hg1 hm1
 have hg2:=Zb w1 (.cells #[.slice A n c,.int .i64 x.next] 96)
 have hm2:=Whole.made w1 96 #[.slice A n c,.int .i64 x.next]
 obtain ⟨w2,hw2⟩:∃ y,w1.alloc (.cells #[.slice A n c,.int .i64 x.next] 96)=y:=⟨_,rfl⟩
 rw [hw2] at hg2 hm2
 have s1:w1.heap.size=w.heap.size+1:=by rw [←hw1,World.size_alloc]
 have s2:w2.heap.size=w.heap.size+1+1:=by rw [←hw2,World.size_alloc,s1]
 have HX:=hid (hx.grow (hg1.trans hg2))
 have HM1:=hid (hg2.whole hm1)
 rw [s1] at hm2
 have HM2:=hid hm2
 have HG2:=hid (hg1.trans hg2)
 have HSS:=hid s2
 have H:=hid (And.intro h ok)
 have HR:=hid (Zdx w2 A n c x HX.out)
 obtain ⟨b,hbb⟩:∃ b,Ya x=b:=⟨_,rfl⟩
 obtain ⟨nx,hnx⟩:∃ nx,x.next=nx:=⟨_,rfl⟩
 rw [hbb,hnx] at HR
 rw [hnx] at hw2 HM2 ⊢
 have c1:=hm1.cell 0
 have c2:=HM2.out.cell 0
 have c3:=HM2.out.cell 1
 simp only [Gt] at c1 c2 c3
 obtain ⟨r,hr⟩:∃ r,saveP m x=r:=⟨_,rfl⟩
 rw [hr]
 unfold saveP at hr
 rw [hbb] at hr
 have HB:=hid (And.intro hbb hnx)
 have HRR:=hid hr
 obtain ⟨pm,hpm⟩:∃ p,putM x=p:=⟨_,rfl⟩
 have HPM:=hid hpm
 obtain ⟨s,hs⟩:∃ s:ByteArray,(⟨nmT.toArray⟩:ByteArray)=s:=⟨_,rfl⟩
 have hno:=fun w'=>Zp4 w'
 rw [show ([116]:List UInt8)=nmT from rfl,hs] at hno
 have HN:=hid hno
 have HSE:=hid hs
 clear hpm hs hno
 clear hx h ok hg1 hm1 hg2 hm2 hbb hnx hr s2
 go_enter Tryz.func134,Tryz.ntmps134
 go_wp2_with (fail)
 refine HR.out.mono ?_
 rintro e w3 ⟨rfl,hg3⟩
 have HG3:=hid hg3
 have HM3:=hid (hg3.whole HM2.out)
 clear hg3 hw1 hw2 c1 c2 c3 HR
 cases b with
 | false =>
   obtain rfl:r=(m,1):=by have:=HRR.out;rw [if_neg (by decide)] at this;exact this.symm
   go_wp2_with (fail)
   go_ret
   exact ⟨rfl,(H.out.1.grow HG2.out).grow HG3.out,Stays.grows (HG2.out.trans HG3.out)⟩
 | true =>
   go_wp2_with (fail)
   refine Zih (Inv3 w3 d w.heap.size (w.heap.size+1) A n c nx s pm) mixed ?_ ?_ ?_
   ·exact ⟨0,0,none,0,0,rfl,Ze _,(fun h=>by cases h),(fun h=>by cases h),(fun h=>by cases h),(fun h=>by cases h),(fun h=>by cases h),(fun h=>by cases h)⟩
   ·intro i o b a wx ho hbi haf hI
    obtain ⟨g5,g6,PA,pn,pc,rfl,hG,hP,h5,h6,hc5,hc6,hc7⟩:=hI
    rcases i with _ | _ | _ | _ | _ | _ | _ | i
    ·cases ho
     rw [if_pos (by rfl)]
     refine Zq7 (f:=73) (args:=#[.int .i64 4,.int .i64 0]) (by clear hG hP h5 h6 hc5 hc6 hc7 haf hbi;try unfold frSv;go_simp) ((HN.out wx).mono ?_)
     rintro e wy ⟨rfl,hg⟩
     exact ⟨_,rfl,g5,g6,PA,pn,pc,rfl,hG.trans hg,fun h=>Zd (hP h) hg,fun h=>⟨(h5 h).1,hg.whole (h5 h).2⟩,fun h=>⟨(h6 h).1,hg.whole (h6 h).2⟩,hc5,hc6,hc7⟩
    ·cases ho
     rw [if_pos (by rfl)]
     have hmm:=hG.whole HM3.out
     have z0:=hmm.cell 0
     have z1:=hmm.cell 1
     simp only [Gt] at z0 z1
     refine Zq5 (w':=wx) (v:=.agg #[.slice A n c,.int .i64 nx]) (by clear hG hP h5 h6 hc5 hc6 hc7 haf hbi hmm;try unfold frSv;go_simp) ?_
     exact ⟨g5,g6,PA,pn,pc,rfl,hG,hP,h5,h6,hc5,hc6,hc7⟩
    ·cases ho
     rw [if_pos (by rfl)]
     have e1:b 1=true:=haf ⟨1,.data⟩ (by simp) rfl
     have hp:=Zq2 wx A n c x (HX.out.grow (HG3.out.trans hG))
     rw [HB.out.2,HPM.out] at hp
     have HP:=hid hp
     simp only [e1,cond_true]
     refine Zq7 (f:=195) (args:=#[.agg #[.slice A n c,.int .i64 nx]]) (by clear hG hP h5 h6 hc5 hc6 hc7 haf hbi hp;try unfold frSv;go_simp) (HP.out.mono ?_)
     rintro e wy ⟨A',k',c',rfl,ho,hg⟩
     refine ⟨_,rfl,g5,g6,A',k',c',?_,hG.trans hg,fun _=>Zh ho hG.size,fun h=>⟨(h5 h).1,hg.whole (h5 h).2⟩,fun h=>?_,hc5,hc6,fun _=>rfl⟩
     ·have e1':did b 2 1=true:=e1
      rw [e1']
      rfl
     ·have hb6:b 6=false:=by
       cases h6b:b 6 with
       | false=>rfl
       | true=>exact absurd (hc7 h6b) (by rw [hbi];decide)
      have:=hg.whole (h6 h).2
      rw [hb6] at this
      refine ⟨(h6 h).1,?_⟩
      rw [show did b 2 6=false from hb6]
      exact this
    ·cases ho
     rw [if_pos (by rfl)]
     refine Zq5 (w':=wx.alloc (.cells #[.string ⟨#[]⟩] 9)) (v:=.pointer (some ⟨wx.heap.size,0,none⟩)) (by clear hG hP h5 h6 hc5 hc6 hc7 haf hbi;try unfold frSv;go_simp) ?_
     have hg:=Zb wx (.cells #[.string ⟨#[]⟩] 9)
     have hb5:b 5=false:=by
      cases h5b:b 5 with
      | false=>rfl
      | true=>exact absurd (hc5 h5b) (by rw [hbi];decide)
     refine ⟨wx.heap.size,g6,PA,pn,pc,rfl,hG.trans hg,fun h=>Zd (hP h) hg,fun _=>⟨hG.size,?_⟩,fun h=>⟨(h6 h).1,hg.whole (h6 h).2⟩,fun _=>rfl,hc6,hc7⟩
     rw [show did b 3 5=false from hb5]
     exact Whole.made _ _ _
    ·cases ho
     rw [if_pos (by rfl)]
     refine Zq5 (w':=wx.alloc (.cells #[.slice none 0 0] 37)) (v:=.pointer (some ⟨wx.heap.size,0,none⟩)) (by clear hG hP h5 h6 hc5 hc6 hc7 haf hbi;try unfold frSv;go_simp) ?_
     have hg:=Zb wx (.cells #[.slice none 0 0] 37)
     have hb6:b 6=false:=by
      cases h6b:b 6 with
      | false=>rfl
      | true=>exact absurd (hc6 h6b) (by rw [hbi];decide)
     refine ⟨g5,wx.heap.size,PA,pn,pc,rfl,hG.trans hg,fun h=>Zd (hP h) hg,fun h=>⟨(h5 h).1,hg.whole (h5 h).2⟩,fun _=>⟨hG.size,?_⟩,hc5,fun _=>rfl,hc7⟩
     rw [show did b 4 6=false from hb6]
     exact Whole.made _ _ _
    ·cases ho
     rw [if_pos (by rfl)]
     have e3:b 3=true:=haf ⟨3,.data⟩ (by simp) rfl
     have e0:b 0=true:=haf ⟨0,.data⟩ (by simp) rfl
     obtain ⟨hg5,hw5⟩:=h5 e3
     have z0:=hw5.cell 0
     have z1:=hw5.free 0
     simp only [Gt] at z0
     have HS:=hid (And.intro hG (And.intro hP (And.intro h6 (And.intro (And.intro hc6 hc7) (And.intro hg5 hw5)))))
     simp only [e3,e0,cond_true]
     refine Zq6 (w':=wx.setCell ⟨g5,0,none⟩ (.string s)) (by clear hG hP h5 h6 hc5 hc6 hc7 haf hbi hw5 hg5;try unfold frSv;go_simp) ?_
     obtain ⟨hG,hP,h6,⟨hc6,hc7⟩,hg5,hw5⟩:=HS.out
     obtain ⟨hsG,hsame⟩:=Zqz hG hg5 (.string s)
     refine ⟨g5,g6,PA,pn,pc,?_,hsG,fun h=>Zz (hP h) fun k hk=>hsame k ((hP h).lt k hk).2 (Zha (hP h) hw5 (by decide) k hk),fun _=>⟨hg5,hw5.put 0 _⟩,fun h=>⟨(h6 h).1,(h6 h).2.same (hsame g6 (h6 h).2.lt (Zd6 (h6 h).2 hw5 (by decide)))⟩,fun _=>e3,hc6,hc7⟩
     rw [show did b 5 3=true from e3,show did b 5 0=true from e0]
     rfl
    ·cases ho
     rw [if_pos (by rfl)]
     have e4:b 4=true:=haf ⟨4,.data⟩ (by simp) rfl
     have e2:b 2=true:=haf ⟨2,.data⟩ (by simp) rfl
     obtain ⟨hg6,hw6⟩:=h6 e4
     have z0:=hw6.cell 0
     have z1:=hw6.free 0
     simp only [Gt] at z0
     have HS:=hid (And.intro hG (And.intro hP (And.intro h5 (And.intro hc5 (And.intro hg6 hw6)))))
     simp only [e4,e2,cond_true]
     refine Zq6 (w':=wx.setCell ⟨g6,0,none⟩ (.slice PA pn pc)) (by clear hG hP h5 h6 hc5 hc6 hc7 haf hbi hw6 hg6;try unfold frSv;go_simp) ?_
     obtain ⟨hG,hP,h5,hc5,hg6,hw6⟩:=HS.out
     obtain ⟨hsG,hsame⟩:=Zqz hG hg6 (.slice PA pn pc)
     refine ⟨g5,g6,PA,pn,pc,?_,hsG,fun h=>Zz (hP h) fun k hk=>hsame k ((hP h).lt k hk).2 (Zha (hP h) hw6 (by decide) k hk),fun h=>⟨(h5 h).1,(h5 h).2.same (hsame g5 (h5 h).2.lt (Zd6 (h5 h).2 hw6 (by decide)))⟩,fun _=>⟨hg6,hw6.put 0 _⟩,hc5,fun _=>e4,fun _=>e2⟩
     rw [show did b 6 4=true from e4,show did b 6 2=true from e2]
     rfl
    ·cases ho
   ·intro b a w4 hI hdone
    have hall:=Zth (by
     intro i o ho e he
     rcases i with _ | _ | _ | _ | _ | _ | _ | i
     all_goals first | (cases ho;done) | (cases ho;simp at he;try omega)
     all_goals (rcases he with rfl | rfl | rfl | rfl | rfl | rfl | rfl | rfl | rfl <;> decide)) hdone
    obtain ⟨g5,g6,PA,pn,pc,rfl,hG,hP,h5,h6,_,_,_⟩:=hI
    have e0:b 0=true:=hall 0 (by decide)
    have e1:b 1=true:=hall 1 (by decide)
    have e2:b 2=true:=hall 2 (by decide)
    have e3:b 3=true:=hall 3 (by decide)
    have e4:b 4=true:=hall 4 (by decide)
    have e5:b 5=true:=hall 5 (by decide)
    have e6:b 6=true:=hall 6 (by decide)
    obtain ⟨hg5,hw5⟩:=h5 e3
    obtain ⟨hg6,hw6⟩:=h6 e4
    rw [e5] at hw5
    rw [e6] at hw6
    simp only [e0,e1,e2,e3,e4,cond_true]
    unfold frSv
    have HF:=hid (And.intro hG (And.intro (hP e2) (And.intro hg5 (And.intro hw5 (And.intro hg6 hw6)))))
    have HC:=hid (show ∀ w',Grows w4 w'→w'.cell? { block:=w.heap.size,off:=0 }=some (.pointer (some ⟨d,0,none⟩))∧w'.cell? { block:=g5,off:=0 }=some (.string s) from fun w' hC=>⟨((HG3.out.trans (HF.out.1.trans hC)).whole HM1.out).cell 0,(hC.whole HF.out.2.2.2.1).cell 0⟩)
    clear hall hdone hG hP h5 h6 hg5 hw5 hg6 hw6 e0 e1 e2 e3 e4 e5 e6
    go_wp2_with (fail)
    refine Zf (E:=Grows) 13 [Za (.func (.func 197) #[] #[.pointer (some ⟨w.heap.size,0,none⟩),.pointer (some ⟨g5,0,none⟩)]),Za (.pointer (some ⟨d,0,none⟩)),Za (.func (.func 129) #[.pointer (some ⟨d,0,none⟩)] #[]),Za (.string s),Zej w4 (.func (.func 129) #[.pointer (some ⟨d,0,none⟩)] #[]) s,Za (.func (.func 200) #[] #[.pointer (some ⟨w.heap.size,0,none⟩),.pointer (some ⟨g5,0,none⟩),.pointer (some ⟨g6,0,none⟩)]),Za (.pointer (some ⟨d,0,none⟩)),Za (.func (.func 72) #[.pointer (some ⟨d,0,none⟩)] #[]),Za (.string s),Zej w4 (.func (.func 72) #[.pointer (some ⟨d,0,none⟩)] #[]) s,Za (.func (.func 201) #[] #[.pointer (some ⟨w.heap.size,0,none⟩),.pointer (some ⟨g5,0,none⟩)]),Za (.pointer (some ⟨d,0,none⟩)),Za (.func (.func 203) #[.pointer (some ⟨d,0,none⟩)] #[])] mixed (by kernel_rfl) (fun _ _ _=>Grows.trans) (Ze _) ?_
    simp only [List.take_succ_cons,List.take_zero,List.drop_succ_cons,List.drop_zero]
    refine f_val _ (by rfl) ?_ ?_
    ·intro w' hC;clear hC;go_simp
    simp only [Pu]
    refine f_val _ (by rfl) ?_ ?_
    ·intro w' hC;obtain ⟨z1,z2⟩:=HC.out w' hC;clear hC;go_simp
    simp only [Pu]
    refine f_val _ (by rfl) ?_ ?_
    ·intro w' hC;clear hC;go_simp
    simp only [Pu]
    refine f_val _ (by rfl) ?_ ?_
    ·intro w' hC;obtain ⟨z1,z2⟩:=HC.out w' hC;clear hC;go_simp
    simp only [Pu]
    refine Zt5 (.func (.func 129) #[.pointer (some ⟨d,0,none⟩)] #[]) s 199 #[.func (.func 129) #[.pointer (some ⟨d,0,none⟩)] #[],.string s] (by rfl) (by intro w' hC;clear hC;go_simp) ?_ ?_
    ·intro w' hC;exact Zmr w' _ _ _ s rfl
    intro o1
    simp only [Pu]
    refine f_val _ (by rfl) ?_ ?_
    ·intro w' hC;clear hC;go_simp
    simp only [Pu]
    refine f_val _ (by rfl) ?_ ?_
    ·intro w' hC;obtain ⟨z1,z2⟩:=HC.out w' hC;clear hC;go_simp
    simp only [Pu]
    refine f_val _ (by rfl) ?_ ?_
    ·intro w' hC;clear hC;go_simp
    simp only [Pu]
    refine f_val _ (by rfl) ?_ ?_
    ·intro w' hC;obtain ⟨z1,z2⟩:=HC.out w' hC;clear hC;go_simp
    simp only [Pu]
    refine Zt5 (.func (.func 72) #[.pointer (some ⟨d,0,none⟩)] #[]) s 199 #[.func (.func 72) #[.pointer (some ⟨d,0,none⟩)] #[],.string s] (by rfl) (by intro w' hC;clear hC;go_simp) ?_ ?_
    ·intro w' hC;exact Zmr w' _ _ _ s rfl
    intro o2
    simp only [Pu]
    refine f_val _ (by rfl) ?_ ?_
    ·intro w' hC;clear hC;go_simp
    simp only [Pu]
    refine f_val _ (by rfl) ?_ ?_
    ·intro w' hC;obtain ⟨z1,z2⟩:=HC.out w' hC;clear hC;go_simp
    simp only [Pu]
    refine f_val _ (by rfl) ?_ ?_
    ·intro w' hC;clear hC;go_simp
    simp only [Pu]
    refine Zs ?_
    intro w5 hC hks
    have HCw5:=hid hC
    have HK1:=hid (show w4.heap.size≤o1∧Whole w5 o1 126 #[.func (.func 129) #[.pointer (some ⟨d,0,none⟩)] #[]]∧Whole w5 (o1+1) 9 #[.string s] from Known.at hks 1 rfl)
    have HK2:=hid (show w4.heap.size≤o2∧Whole w5 o2 126 #[.func (.func 72) #[.pointer (some ⟨d,0,none⟩)] #[]]∧Whole w5 (o2+1) 9 #[.string s] from Known.at hks 0 rfl)
    clear hC hks
    go_wp2_with (fail)
    have hg6:=Zb w5 (.cells #[.func (.func 197) #[] #[.pointer (some ⟨w.heap.size,0,none⟩),.pointer (some ⟨g5,0,none⟩)],.func (.func 263) #[] #[.pointer (some ⟨o1,0,none⟩),.pointer (some ⟨o1+1,0,none⟩)],.func (.func 200) #[] #[.pointer (some ⟨w.heap.size,0,none⟩),.pointer (some ⟨g5,0,none⟩),.pointer (some ⟨g6,0,none⟩)],.func (.func 263) #[] #[.pointer (some ⟨o2,0,none⟩),.pointer (some ⟨o2+1,0,none⟩)],.func (.func 201) #[] #[.pointer (some ⟨w.heap.size,0,none⟩),.pointer (some ⟨g5,0,none⟩)],.func (.func 203) #[.pointer (some ⟨d,0,none⟩)] #[]] 235)
    have hm6:=Whole.made w5 235 #[.func (.func 197) #[] #[.pointer (some ⟨w.heap.size,0,none⟩),.pointer (some ⟨g5,0,none⟩)],.func (.func 263) #[] #[.pointer (some ⟨o1,0,none⟩),.pointer (some ⟨o1+1,0,none⟩)],.func (.func 200) #[] #[.pointer (some ⟨w.heap.size,0,none⟩),.pointer (some ⟨g5,0,none⟩),.pointer (some ⟨g6,0,none⟩)],.func (.func 263) #[] #[.pointer (some ⟨o2,0,none⟩),.pointer (some ⟨o2+1,0,none⟩)],.func (.func 201) #[] #[.pointer (some ⟨w.heap.size,0,none⟩),.pointer (some ⟨g5,0,none⟩)],.func (.func 203) #[.pointer (some ⟨d,0,none⟩)] #[]]
    obtain ⟨w6,hw6⟩:∃ y,w5.alloc (.cells #[.func (.func 197) #[] #[.pointer (some ⟨w.heap.size,0,none⟩),.pointer (some ⟨g5,0,none⟩)],.func (.func 263) #[] #[.pointer (some ⟨o1,0,none⟩),.pointer (some ⟨o1+1,0,none⟩)],.func (.func 200) #[] #[.pointer (some ⟨w.heap.size,0,none⟩),.pointer (some ⟨g5,0,none⟩),.pointer (some ⟨g6,0,none⟩)],.func (.func 263) #[] #[.pointer (some ⟨o2,0,none⟩),.pointer (some ⟨o2+1,0,none⟩)],.func (.func 201) #[] #[.pointer (some ⟨w.heap.size,0,none⟩),.pointer (some ⟨g5,0,none⟩)],.func (.func 203) #[.pointer (some ⟨d,0,none⟩)] #[]] 235)=y:=⟨_,rfl⟩
    have s6:w6.heap.size=w5.heap.size+1:=by rw [←hw6,World.size_alloc]
    rw [hw6] at hg6 hm6
    rw [hw6]
    have hgr:Grows w w6:=HG2.out.trans (HG3.out.trans (HF.out.1.trans (HCw5.out.trans hg6)))
    have h46:Grows w4 w6:=HCw5.out.trans hg6
    have hd6:=H.out.1.more hgr
    have hw3:w.heap.size≤w3.heap.size:=(HG2.out.trans HG3.out).size
    have hown:=Zd HF.out.2.1 h46
    have hw4:=HF.out.1.size
    have hclo:CloAt (fun k=>out k∨(w.heap.size≤k∧k < w6.heap.size)) w6 d s pm w5.heap.size w.heap.size g5 g6 o1 (o1+1) o2 (o2+1) PA pn pc :=
     ⟨hm6,(HG3.out.trans (HF.out.1.trans h46)).whole HM1.out,h46.whole HF.out.2.2.2.1,h46.whole HF.out.2.2.2.2.2,hg6.whole HK1.out.2.1,hg6.whole HK1.out.2.2,hg6.whole HK2.out.2.1,hg6.whole HK2.out.2.2,Sl.owned hown,
      fun ad e hne=>.inr (by
       have:=Zmq hown ad e
       omega),by rw [←HPM.out];exact Zgt x,by
      have q1:=HF.out.2.2.1
      have q2:=(h46.whole HF.out.2.2.2.1).lt
      have q3:=HF.out.2.2.2.2.1
      have q4:=(h46.whole HF.out.2.2.2.2.2).lt
      have q5:=HK1.out.1
      have q6:=(hg6.whole HK1.out.2.2).lt
      have q7:=HK2.out.1
      have q8:=(hg6.whole HK2.out.2.2).lt
      have q9:=HCw5.out.size
      refine ⟨.inr ?_,.inr ?_,.inr ?_,.inr ?_,.inr ?_,.inr ?_,.inr ?_,.inr ?_⟩ <;> omega⟩
    have hrr:seqP (Yj pm) m=r:=by have:=HRR.out;rw [HPM.out] at this;first | exact this | simpa using this
    have hit:=Zn1 w6 hd6 H.out.2 hK HSE.out hclo
    rw [hrr] at hit
    refine hit.mono ?_
    clear hit hclo hd6 hown
    rintro e w7 ⟨rfl,hd7,hst7⟩
    have HE:=hid (And.intro hd7 (And.intro hst7 hgr))
    clear hd7 hst7 hgr hw6 h46 hm6 hg6
    go_wp2_with (fail)
    go_ret
    exact ⟨rfl,HE.out.1.less fun k hk=>.inl hk,(Stays.grows HE.out.2.2).trans (Stays.lessM HE.out.2.1 fun k hk=>.inl hk)⟩
end
end Go.Proofs.YtkelafkbmnjpeaaGreat
