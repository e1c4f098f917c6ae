/-
  Texts that the statements lean on, one behind the other.
-/
import Derived.Test.YtkelafkbmnjpeaaGreatLgSm
import Derived.Test.YtkelafkbmnjpeaaGreatMG27
import Derived.LoopTactic
import Derived.Test.YtkelafkbmnjpeaaGreatMG23
import Derived.Test.YtkelafkbmnjpeaaGreatMG01
import Derived.Test.YtkelafkbmnjpeaaGreatMG10
import Derived.Test.YtkelafkbmnjpeaaGreatMG08
import Derived.Test.YtkelafkbmnjpeaaGreatMG03
import Derived.Laws.AppendOwn
import Derived.Maps.AppendAt
import Derived.OwnWalkIn
set_option linter.unusedSimpArgs false
set_option linter.unusedVariables false
set_option maxHeartbeats 8000000
set_option maxRecDepth 100000
namespace Go.Proofs.YtkelafkbmnjpeaaGreat
open Go.Lib (hid)
open Go.RowKit Go.Maps Go.WideMaps
theorem Ziv {B:Nat} {out:Nat→Prop} {w w':World} {A:Option Addr} {n c b:Nat} {xs:List Int} (h:w.ownsRow b 3 1 (.slice A n c) n (xs.map iV)) (hs:Stays B out w w') (hA:∀ ad,A=some ad→out ad.block):w'.ownsRow b 3 1 (.slice A n c) n (xs.map iV) :=
 Zz h fun k hk=>hs.same k (h.lt k hk).2 fun e=>e.2 (by
  rcases Yk h with ⟨rfl,_⟩ | ⟨g,rfl,_⟩
  ·cases hk
  ·injection hk with hk
   rw [←hk]
   exact hA _ rfl)
section
variable {B d l n c K:Nat} {w0 w1 w:World} {out:Nat→Prop} {A:Option Addr} {L:Lg}
theorem LgAt.put {wa wb:World} {A':Option Addr} {n' c':Nat} {segs:List Int} {nx:Int} {m':Dk} {out':Nat→Prop} (hd:DkIn B w0 wa d out' m') (hw:Whole wa l 100 (lgC d A n c L)) (ho:wa.ownsRow B 3 1 (.slice A' n' c') n' (segs.map iV)) (hB:B≤l) (hl:¬ out l) (hA:∀ ad,A'=some ad→ad.block≠l∧¬ out ad.block)
 (hout:∀ k,lgO l A' out k→out' k) (e:wb=(wa.setCell ⟨l,2,none⟩ (.slice A' n' c')).setCell ⟨l,3,none⟩ (.int .i64 nx)) :
 LgAt B w0 wb d l out A' n' c' { L.on m' with man:=⟨segs,nx⟩ }∧Stays B out wa wb:=by
 have hs:Zc (fun k=>k=l) wa wb:=by
  rw [e]
  exact ((Zc.refl (fun k=>k=l) wa).setCell (p:=⟨l,2,none⟩) rfl _).setCell (p:=⟨l,3,none⟩) rfl _
 have hrow:=(hw.put 2 (.slice A' n' c')).put 3 (.int .i64 nx)
 rw [show (wa.setCell ⟨l,2,none⟩ (.slice A' n' c')).setCell ⟨l,3,none⟩ (.int .i64 nx)=wb from e.symm] at hrow
 refine ⟨⟨(hd.other hs (fun k e _=>hout k (.inr (.inl e))) fun k e=>by rw [e];exact hB).less hout,hrow,?_,hB,hl,hA⟩,hs.wider fun k _ e=>by rw [e];exact ⟨hB,hl⟩⟩
 refine Zz ho fun k hk=>hs.same k (ho.lt k hk).2 ?_
 rcases Yk ho with ⟨rfl,_⟩ | ⟨g,rfl,_⟩
 ·cases hk
 ·injection hk with hk
  rw [←hk]
  exact (hA _ rfl).1
def Zva (B:Nat) (w0:World) (d l:Nat) (out:Nat→Prop) (A:Option Addr) (n c:Nat) (A':Option Addr) (n' c':Nat) (old:List Int) (w:World) (r:Lg×Int) (e:Ending) (w':World):Prop :=
 e=.returned (.int .i64 r.2)∧Stays B out w w'∧((r.2=0∧LgAt B w0 w' d l (fun k=>out k∨∃ ad,A=some ad∧k=ad.block) A' n' c' r.1∧w'.ownsRow B 3 1 (.slice A n c) n (old.map iV))∨(r.2≠0∧LgAt B w0 w' d l out A n c r.1))
theorem Ziw (segs:List Int) (A':Option Addr) (n' c':Nat) (h:LgAt B w0 w1 d l out A n c L) (hg:Grows w1 w) (ho:w.ownsRow w1.heap.size 3 1 (.slice A' n' c') n' (segs.map iV)) (hb:∀ x∈segs,In64 x) (hx:In64 L.man.next) (ok:DkOk K L.dk) (hK:K≤90000000) :
 Calls Tryz.prog 76 #[.pointer (some ⟨l,0,none⟩),.slice A' n' c'] w (Zva B w0 d l out A n c A' n' c' L.man.segs w (Z6 L segs)):=by
 obtain ⟨nx,hnx⟩:∃ nx,L.man.next=nx:=⟨_,rfl⟩
 obtain ⟨w2,hw2⟩:∃ y,w.alloc (.cells #[.slice A' n' c',.int .i64 nx] 96)=y:=⟨_,rfl⟩
 have hga:=Zb w (.cells #[.slice A' n' c',.int .i64 nx] 96)
 have hm2:=Whole.made w 96 #[.slice A' n' c',.int .i64 nx]
 have hs2:w2.heap.size=w.heap.size+1:=by rw [←hw2,World.size_alloc]
 rw [hw2] at hga hm2
 have HWM:=hid hm2
 have hg2:Grows w1 w2:=Grows.trans hg hga
 obtain ⟨z0,z1,z2,z3,z4⟩:=h.fields hg
 rw [hnx] at z3
 have HF:=hid (fun w' (hC:Grows w2 w')=>h.fields (Grows.trans hg2 hC))
 have HM:=hid (show ∀ w',Grows w2 w'→w'.cell? { block:=w.heap.size,off:=0 }=some (.slice A' n' c')∧w'.cell? { block:=w.heap.size,off:=1 }=some (.int .i64 nx) from fun w' hC=>⟨(hC.whole hm2).cell 0,(hC.whole hm2).cell 1⟩)
 obtain ⟨out',hout'⟩:∃ o:Nat→Prop,(fun k=>lgO l A out k∨(w1.heap.size≤k∧k < w2.heap.size))=o:=⟨_,rfl⟩
 have hlt1:w1.heap.size≤w.heap.size:=hg.size
 have hin:∀ k,lgO l A out k→out' k:=fun k hk=>by rw [←hout'];exact .inl hk
 have hnew:∀ k,w1.heap.size≤k→k < w2.heap.size→out' k:=fun k h1 h2=>by rw [←hout'];exact .inr ⟨h1,h2⟩
 have hsv:=fun w' (hC:Grows w2 w')=>Zq0 (out:=out') w' A' n' c' ⟨segs,nx⟩ ⟨(Ints.owned ho).grow (Grows.trans hga hC),hb,by rw [←hnx];exact hx⟩ (by rw [←hout'];exact (h.dk.more hg2).grow hC) ok hK
 obtain ⟨r,hr⟩:∃ r,Z6 L segs=r:=⟨_,rfl⟩
 rw [hr]
 unfold Z6 at hr
 rw [hnx] at hr
 obtain ⟨⟨m',er⟩,hq⟩:∃ q,saveP L.dk ⟨segs,nx⟩=q:=⟨_,rfl⟩
 rw [hq] at hr hsv
 dsimp only at hr
 have HSV:=hid hsv
 have H:=hid h
 have HO:=hid (And.intro ho (And.intro hga (And.intro hin (And.intro hnew (And.intro hlt1 hs2)))))
 have HGW:=hid hg
 clear hsv h ho hga hm2 hg2 hin hnew ok hq hg hx hnx hb hout' hlt1 hs2
 go_enter Tryz.func76,Tryz.ntmps76
 go_wp2_with (fail)
 clear hw2 z0 z1 z2 z3 z4
 refine Zf (E:=Grows) 5 [Za (.pointer (some ⟨l,0,none⟩)),Za (.pointer (some ⟨l,0,none⟩)),Za (.pointer (some ⟨l,0,none⟩)),Za (.pointer (some ⟨d,0,none⟩)),Za (.agg #[.slice A' n' c',.int .i64 nx])] mixed (by kernel_rfl) (fun _ _ _=>Grows.trans) (Ze _) ?_
 simp only [List.take_succ_cons,List.take_zero,List.drop_succ_cons,List.drop_zero]
 iterate 3
  refine f_val _ (by rfl) ?_ ?_
  ·intro w' hC;clear hC;go_simp
  simp only [Pu]
 refine f_val _ (by rfl) ?_ ?_
 ·intro w' hC;obtain ⟨z0,z1,z2,z3,z4⟩:=HF.out w' hC;clear hC;go_simp
 simp only [Pu]
 refine f_val _ (by rfl) ?_ ?_
 ·intro w' hC;obtain ⟨z0,z1⟩:=HM.out w' hC;clear hC;go_simp
 simp only [Pu]
 refine Zs ?_
 intro w3 hC hks
 have HCw3:=hid hC
 clear hC hks
 go_wp2_with (fail)
 refine (HSV.out w3 HCw3.out).mono ?_
 rintro e w4 ⟨rfl,hd,hst⟩
 have hwh:Whole w4 l 100 (lgC d A n c L):=Zo hst (HCw3.out.whole (HO.out.2.1.whole (HGW.out.whole H.out.whole))) (HO.out.2.2.1 l (.inr (.inl rfl)))
 have hbx:Whole w4 w.heap.size 96 #[.slice A' n' c',.int .i64 nx]:=Zo hst (HCw3.out.whole HWM.out) (HO.out.2.2.2.1 _ HO.out.2.2.2.2.1 (by have:=HO.out.2.2.2.2.2;omega))
 have hown:w4.ownsRow w1.heap.size 3 1 (.slice A' n' c') n' (segs.map iV):=by
  have h1:=Zd (Zd HO.out.1 HO.out.2.1) HCw3.out
  refine Zz h1 fun k hk=>hst.same k (h1.lt k hk).2 fun e=>e.2 (HO.out.2.2.2.1 k (h1.lt k hk).1 ?_)
  have:=(HO.out.1.lt k hk).2
  have:=HO.out.2.2.2.2.2
  omega
 have hold:w4.ownsRow B 3 1 (.slice A n c) n (L.man.segs.map iV):=by
  have h1:=Zd (Zd (Zd H.out.own HGW.out) HO.out.2.1) HCw3.out
  refine Zz h1 fun k hk=>hst.same k (h1.lt k hk).2 fun e=>e.2 (HO.out.2.2.1 k (.inr (.inr ?_)))
  rcases Yk h1 with ⟨rfl,_⟩ | ⟨g,rfl,_⟩
  ·cases hk
  ·injection hk with hk
   exact ⟨⟨g,0,none⟩,rfl,hk.symm⟩
 have HOLD:=hid hold
 clear hold
 have hw1s:B≤w1.heap.size:=H.out.dk.size
 have hstw:Stays B out w w4:=(Stays.grows (Grows.trans HO.out.2.1 HCw3.out)).trans (Zt hst fun k hk=>HO.out.2.2.1 k (.inl hk))
 have x0:=hbx.cell 0
 have x1:=hbx.cell 1
 have y0:=hwh.cell 0
 have y2:=hwh.free 2
 have y3:=hwh.free 3
 have q2:=hwh.cell 2
 have q3:=hwh.cell 3
 unfold lgC at y0 q2 q3
 simp only [Gt] at x0 x1 y0 q2 q3
 have HD:=hid (And.intro (show DkIn B w0 w4 d out' m' from hd) (And.intro hwh (And.intro hown (And.intro hw1s hstw))))
 clear hd hst hwh hbx hown hw1s hstw
 by_cases her:er=0
 ·subst her
  rw [if_pos rfl] at hr
  subst hr
  go_wp2_with (fail)
  have hlw:=H.out.lt
  have hnew:∀ ad,A'=some ad→w1.heap.size≤ad.block∧ad.block < w2.heap.size:=fun ad e=>by
   rcases Yk HO.out.1 with ⟨e2,_⟩ | ⟨g,e2,h1,h2⟩
   ·rw [e] at e2;cases e2
   ·rw [e] at e2
    injection e2 with e2
    have:=HO.out.2.2.2.2.2
    rw [e2]
    exact ⟨h1,by show g < _;omega⟩
  have hAl:∀ ad,A=some ad→ad.block < w1.heap.size:=fun ad e=>H.out.dk.lt (.inr (.inr ⟨ad,e,rfl⟩))
  have hfin:=LgAt.put (out:=fun k=>out k∨∃ ad,A=some ad∧k=ad.block) (nx:=nx) HD.out.1 HD.out.2.1 (Zh HD.out.2.2.1 HD.out.2.2.2.1) H.out.2.2.2.1
   (fun e=>e.elim H.out.2.2.2.2.1 fun ⟨ad,e1,e2⟩=>(H.out.2.2.2.2.2 ad e1).1 e2.symm)
   (fun ad e=>⟨by have:=hnew ad e;omega,fun e2=>by
     have h1:=hnew ad e
     rcases e2 with e2 | ⟨ad2,e3,e4⟩
     ·have:=H.out.dk.lt (.inl e2);omega
     ·have:=hAl ad2 e3;omega⟩)
   (fun k hk=>by
     rcases hk with (hk | ⟨ad,e1,e2⟩) | hk | ⟨ad,e1,e2⟩
     ·exact HO.out.2.2.1 k (.inl hk)
     ·exact HO.out.2.2.1 k (.inr (.inr ⟨ad,e1,e2⟩))
     ·exact HO.out.2.2.1 k (.inr (.inl hk))
     ·rw [e2];exact HO.out.2.2.2.1 _ (hnew ad e1).1 (hnew ad e1).2) rfl
  go_ret
  exact ⟨rfl,HD.out.2.2.2.2.trans (Zt hfin.2 fun k hk=>.inl hk),.inl ⟨rfl,hfin.1,Ziv HOLD.out hfin.2 fun ad e=>.inr ⟨ad,e,rfl⟩⟩⟩
 ·have herb:(er==0)=false:=by rw [beq_eq_false_iff_ne];exact her
  rw [if_neg her] at hr
  subst hr
  have HER:=hid her
  clear her
  go_wp2_with (fail)
  go_ret
  obtain ⟨k1,k2,k3,k4,k5,k6⟩:=H.out
  refine ⟨rfl,HD.out.2.2.2.2,.inr ⟨HER.out,HD.out.1.less HO.out.2.2.1,HD.out.2.1,?_,k4,k5,k6⟩⟩
  exact HOLD.out
end
end Go.Proofs.YtkelafkbmnjpeaaGreat
set_option maxHeartbeats 8000000
set_option maxRecDepth 100000
namespace Go.Proofs.YtkelafkbmnjpeaaGreat
open Go.Lib (hid)
open Go.RowKit Go.Maps Go.WideMaps
theorem Zfs (s:ByteArray) (g N:Nat) (steps:List (Dk→Dk×Int)) (In:Nat→Dk→World→Prop) (Out:Dk→World→Prop) (fns:Nat→FuncId×Array Value×Array Value) (hN:steps.length=N) (hN9:N≤9)
 (hrow:∀ i m w,In i m w→∀ j,j < N→w.cell? ⟨g,j,none⟩=some (.func (.func (fns j).1) (fns j).2.1 (fns j).2.2))
 (eg:∀ j,j < N→∀ args w,(callFunc (fns j).1 args).run Tryz.prog w=.ok (.enter (fns j).1 args) w)
 (hstep:∀ j m w st,steps[j]?=some st→In j m w→Calls Tryz.prog (fns j).1 ((fns j).2.1++#[.string s]++(fns j).2.2) w fun e w'=>e=.returned (.int .i64 (st m).2)∧Out (st m).1 w'∧((st m).2=0→In (j+1) (st m).1 w'))
 (hout:∀ j m w,In j m w→Out m w)
 (m:Dk) (w:World) (h:In 0 m w) :
 Calls Tryz.prog 138 #[.string s,.slice (some ⟨g,0,none⟩) N N] w fun e w'=>e=.returned (.tuple #[])∧Out (seqP steps m).1 w':=by
 obtain ⟨r,hr⟩:∃ r,seqP steps m=r:=⟨_,rfl⟩
 rw [hr]
 have H:=hid h
 have HRR:=hid hr
 have HROW:=hid hrow
 have HSTEP:=hid hstep
 have HEG:=hid eg
 have HLN:=hid hN
 have HOUT:=hid hout
 clear h hr hrow hstep eg hN hout
 go_enter Tryz.func138,Tryz.ntmps138
 go_wp2_with (fail)
 go_loopw [8] (fun i wr=>∃ (j:Nat) (mj:Dk),j≤N∧i=.int .i64 (j:Nat)∧Hid (In j mj wr)∧Hid (seqP (steps.drop j) mj=r)) (fun i _=>N - (intOf i).toNat)
 case atStart=>exact ⟨0,m,by omega,rfl,H,hid HRR.out⟩
 case round =>
  obtain ⟨j,mj,hj,rfl,HI,HQ⟩:=hrel
  by_cases hlt:j < N
  ·have hlt':(j:Int) < (N:Int):=by omega
   have hj0:(0:Int)≤(j:Int):=by omega
   have e5:IntKind.i64.wrap ((j:Int)+1)=(j:Int)+1:=IntWalk.i64_in _ ⟨by omega,by omega⟩
   have hcell:=HROW.out j mj wr HI.out j hlt
   have heg:=HEG.out j hlt
   obtain ⟨st,hst⟩:∃ st,steps[j]?=some st:=⟨_,List.getElem?_eq_getElem (by rw [HLN.out];exact hlt)⟩
   have hcall:=HSTEP.out j mj wr st hst HI.out
   have hq:=HQ.out
   obtain ⟨hj',hst'⟩:=List.getElem?_eq_some_iff.1 hst
   rw [List.drop_eq_getElem_cons hj',hst',seqP] at hq
   obtain ⟨⟨f,us,vs⟩,hf⟩:∃ q,fns j=q:=⟨_,rfl⟩
   rw [hf] at hcell heg hcall
   dsimp only at hcell heg hcall
   obtain ⟨⟨m',er⟩,he⟩:∃ q,st mj=q:=⟨_,rfl⟩
   rw [he] at hcall hq
   dsimp only at hcall hq
   have HCALL:=hid hcall
   have HQ2:=hid hq
   clear hst hst' hcall hq he hf
   by_cases her:er=0
   ·subst her
    go_wp2_with (fail)
    refine HCALL.out.mono ?_
    rintro e w5 ⟨rfl,_,hi⟩
    have HI5:=hid (hi (by first | exact rfl | trivial))
    clear hi hcell heg
    go_wp2_with (fail)
    go_roundw
    case rel=>exact ⟨j+1,m',by omega,by first | rfl | go_num,HI5,hid (by have:=HQ2.out;first | (rw [if_pos trivial] at this;exact this) | (rw [if_pos rfl] at this;exact this))⟩
    case measure=>simp [intOf];omega
   ·have herb:(er != 0)=true:=by rw [bne_iff_ne];exact her
    obtain rfl:r=(m',er):=by have:=HQ2.out;rw [if_neg her] at this;exact this.symm
    clear her
    go_wp2_with (fail)
    refine HCALL.out.mono ?_
    rintro e w5 ⟨rfl,hi,_⟩
    have HI5:=hid hi
    clear hi hcell heg
    go_wp2_with (fail)
    refine bodyPost_ret (results_none rfl _ _ _) rfl ?_
    exact ⟨rfl,HI5.out⟩
  ·obtain rfl:j=N:=by omega
   obtain rfl:r=(mj,0):=by
    have:=HQ.out
    rw [List.drop_of_length_le (by rw [HLN.out];omega)] at this
    exact this.symm
   go_wp2_with (fail)
   refine bodyPost_end (results_none rfl _ _ _) rfl ?_
   exact ⟨rfl,HOUT.out _ _ _ HI.out⟩
end Go.Proofs.YtkelafkbmnjpeaaGreat
namespace Go.Proofs.YtkelafkbmnjpeaaGreat
open Go.RowKit
theorem Zfu {w:World} {base:Nat} {e:TypeId} {size:Nat} {v:Value} {n:Nat} {xs:List Value} (h:w.ownsRow base e size v n xs):∃ A c,v=.slice A n c:=by
 rcases h.2 with ⟨rfl,rfl⟩ | ⟨g,cap,_,rfl,_⟩
 ·exact ⟨none,0,rfl⟩
 ·exact ⟨_,cap,rfl⟩
theorem Zaw {w:World} {base:Nat} {e:TypeId} {size:Nat} {v:Value} {n:Nat} {xs:List Value} (h:w.ownsRow base e size v n xs) {k:Nat} (hk:v.ownBlock=some k):base≤k∧k < w.heap.size:=by
 rcases h.2 with ⟨rfl,_⟩ | ⟨g,cap,cur,rfl,hb,hh,_⟩
 ·simp [Value.ownBlock] at hk
 ·obtain rfl:g=k:=by simpa [Value.ownBlock] using hk
  exact ⟨hb,(Array.getElem?_eq_some_iff.1 hh).1⟩
theorem Zba {w w':World} {base:Nat} {e:TypeId} {size:Nat} {v:Value} {n:Nat} {xs:List Value} (h:w.ownsRow base e size v n xs) (hk:∀ k,v.ownBlock=some k→w'.heap[k]?=w.heap[k]?):w'.ownsRow base e size v n xs:=by
 obtain ⟨h1,h2⟩:=h
 refine ⟨h1,?_⟩
 rcases h2 with h2 | ⟨g,cap,cur,hv,hb,hh,r⟩
 ·exact .inl h2
 ·subst hv
  exact .inr ⟨g,cap,cur,rfl,hb,(hk g (by simp [Value.ownBlock])).trans hh,r⟩
section
variable {F:Fence} {n:Nat} {P:Program} {w:World} {ops:Array Oper} {rest:List Oper} {o:Oper} {a:Act} {Q:Exit→Act→World→Prop}
theorem Zd0 (hg:o.guard=none) (s x:Operand) (t:TypeId) (hop:o.op=Op.call { callee:=Callee.builtin Builtin.append,args:=#[s,x],argTypes:=#[t,t] })
 (base:Nat) (e:TypeId) (i:TypeInfo) (z:Value) (size bytes:Nat) (h1:P.underlying t=some (.slice e)) (h2:P.info? e=some i) (h3:i.zero=some z) (h4:i.size=size) (h5:i.bytes=bytes) (h6:z.cells.size=size) (h7:0 < size)
 (v:Value) (k:Nat) (xs:List Value) (hs:a.eval s=v) (hown:w.ownsRow base e size v k xs) (ad:Addr) (m c:Nat) (news:List Value) (hx:a.eval x=.slice (some ad) m c) (hn:news.length=m*size)
 (hc:∀ j u,news[j]?=some u→w.cell? (ad.add j)=some u) (h1c:∀ u∈news,u.oneCell'=true) (b1:k+m≤maxLen) (b2:(k+m)*bytes≤140737488355328) (b3:base≤w.heap.size)
 (hK:∀ A' c' w',w'.ownsRow base e size (.slice A' (k+m) c') (k+m) (xs++news)→w.grownBy w' v.ownBlock→((Value.slice A' (k+m) c').ownBlock=v.ownBlock∨(Value.slice A' (k+m) c').ownBlock=some w.heap.size)→wpListIn F n P ops Q rest (a.put o.dst (.slice A' (k+m) c')) w') :
 wpListIn F n P ops Q (o :: rest) a w:=by
 refine wpListIn_plain hg fun K hK'=>?_
 obtain ⟨v',w',hrun,r1,r2,_,r3⟩:=run_append_own_at (P:=P) (w:=w) base t o.type e i z size bytes h1 h2 h3 h4 h5 h6 h7 v k xs hown ad m c news hn hc h1c b1 b2 b3
 obtain ⟨A',c',rfl⟩:=Zfu r1
 unfold Oper.wpIn
 refine ⟨?_,?_⟩
 ·simp [Oper.about,hop,resolve,Target.leads,Sem.run_pure]
 ·rw [Oper.semAt_plain F _ _ (by rw [hop];intro c hc';cases hc')]
  simp only [execOp,hop,resolve,invoke,builtin,Sem.run_bind,Sem.run_pure,Result.andThen_ok,List.map_toArray,List.map_cons,List.map_nil,hs,hx,hrun]
  exact hK' _ _ (hK A' c' w' r1 r2 r3)
theorem Zfv (hg:o.guard=none) (s x:Operand) (t:TypeId) (hop:o.op=Op.call { callee:=Callee.builtin Builtin.append,args:=#[s,x],argTypes:=#[t,t] })
 (base:Nat) (e:TypeId) (i:TypeInfo) (z:Value) (size bytes:Nat) (h1:P.underlying t=some (.slice e)) (h2:P.info? e=some i) (h3:i.zero=some z) (h4:i.size=size) (h5:i.bytes=bytes) (h6:z.cells.size=size) (h7:0 < size)
 {v:Value} {k:Nat} {xs:List Value} (hs:a.eval s=v) (hown:w.ownsRow base e size v k xs) {A:Option Addr} {m c:Nat} {B:Nat} {news:List Value} (hx:a.eval x=.slice A m c) (hr:Row w B A (size*m) news) (hbare:A=none→c=0)
 (h1c:∀ u∈news,u.oneCell'=true) (j:Nat) (hj:k+m=j) (b1:j≤maxLen) (b2:j*bytes≤140737488355328) (b3:base≤w.heap.size)
 (hK:∀ A' c' w',w'.ownsRow base e size (.slice A' j c') j (xs++news)→w.grownBy w' v.ownBlock→((Value.slice A' j c').ownBlock=v.ownBlock∨(Value.slice A' j c').ownBlock=some w.heap.size)→wpList P ops Q rest (a.put o.dst (.slice A' j c')) w') :
 wpList P ops Q (o :: rest) a w:=by
 subst hj
 refine wpList_plain hg fun K hK'=>?_
 have key:∃ v' w',(Builtin.append_ #[t,t] o.type #[v,.slice A m c]).run P w=.ok v' w'∧w'.ownsRow base e size v' (k+m) (xs++news)∧w.grownBy w' v.ownBlock∧(v'.ownBlock=v.ownBlock∨v'.ownBlock=some w.heap.size):=by
  rcases A with _ | ad
  ·have hnil:news=[]:=by
    rcases news with _ | ⟨u,us⟩
    ·rfl
    ·obtain ⟨ad,he,_⟩:=hr.spot 0 u rfl
     cases he
   subst hnil
   have hm:m=0:=by
    have:=hr.len
    simp only [List.length_nil] at this
    rcases Nat.eq_zero_or_pos m with h | h
    ·exact h
    ·have:=Nat.mul_pos h7 h;omega
   have hc:=hbare rfl
   subst hm hc
   exact ⟨v,w,run_append_owned_none (P:=P) (w:=w) base t o.type e i size h1 h2 v k xs hown,by simpa using hown,World.grownBy.refl w _,.inl rfl⟩
  ·obtain ⟨v',w',hrun,r1,r2,_,r3⟩:=run_append_own_at (P:=P) (w:=w) base t o.type e i z size bytes h1 h2 h3 h4 h5 h6 h7 v k xs hown ad m c news (by rw [hr.len,Nat.mul_comm])
    (fun j u hu=>by obtain ⟨ad',he,_,hc⟩:=hr.spot j u hu;injection he with he;subst he;exact hc) h1c b1 b2 b3
   exact ⟨v',w',hrun,r1,r2,r3⟩
 obtain ⟨v',w',hrun,r1,r2,r3⟩:=key
 obtain ⟨A',c',rfl⟩:=Zfu r1
 unfold Oper.wp execOp
 simp only [hop,resolve,invoke,builtin,Sem.run_bind,Sem.run_pure,Result.andThen_ok,List.map_toArray,List.map_cons,List.map_nil,hs,hx,hrun]
 exact hK' _ _ (hK A' c' w' r1 r2 r3)
end
section
variable {α:Type}
structure Rs (w:World) (A:Option Addr) (n c:Nat) (enc:α→List Value) (k:Nat) (l:List α):Prop where
 len:l.length=n
 cap:n≤c
 bare:A=none→c=0
 row:Row w w.heap.size A (k*n) (l.flatMap enc)
variable {enc:α→List Value} {k:Nat}
theorem Rs.grow {w w':World} {A:Option Addr} {n c:Nat} {l:List α} (h:Rs w A n c enc k l) (hg:Grows w w'):Rs w' A n c enc k l:=⟨h.len,h.cap,h.bare,hg.row h.row⟩
theorem Rs.get (hk:∀ a,(enc a).length=k) (h0:0 < k) {w:World} {A:Option Addr} {n c:Nat} {l:List α} (h:Rs w A n c enc k l) {i:Nat} (hi:i < n) :
 ∃ ad x,A=some ad∧l[i]?=some x∧ad.block < w.heap.size∧∀ j u,(enc x)[j]?=some u→w.cell? ((ad.add (i*k)).add j)=some u:=by
 have hl:i < l.length:=by have:=h.len;omega
 have hx:l[i]?=some l[i]:=List.getElem?_eq_getElem hl
 have key:∀ j u,(enc l[i])[j]?=some u→∃ ad,A=some ad∧ad.block < w.heap.size∧w.cell? ((ad.add (i*k)).add j)=some u:=by
  intro j u hj
  have hjk:j < k:=by
   rw [←hk l[i]]
   exact (List.getElem?_eq_some_iff.1 hj).1
  have hf:=Zec hk l i j _ hx hjk
  rw [hj] at hf
  obtain ⟨ad,hA,hb,hc⟩:=h.row.spot _ _ hf
  exact ⟨ad,hA,hb,by rw [Jg];exact hc⟩
 obtain ⟨u0,h1⟩:∃ u,(enc l[i])[0]?=some u:=⟨(enc l[i])[0]'(by rw [hk];exact h0),List.getElem?_eq_getElem _⟩
 obtain ⟨ad,hA,hb,_⟩:=key 0 _ h1
 refine ⟨ad,l[i],hA,hx,hb,fun j u hj=>?_⟩
 obtain ⟨ad',hA',_,hc⟩:=key j u hj
 rw [hA] at hA'
 injection hA' with hA'
 rw [hA']
 exact hc
theorem Rs.owned (hk:∀ a,(enc a).length=k) {e:TypeId} {w:World} {base:Nat} {A:Option Addr} {n c:Nat} {l:List α} (hn:l.length=n) (h:w.ownsRow base e k (.slice A n c) n (l.flatMap enc)):Rs w A n c enc k l:=by
 refine ⟨hn,?_,?_,?_⟩
 ·rcases h.2 with ⟨h1,h2⟩ | ⟨g,cap,_,h1,_,_,h2,_⟩
  ·omega
  ·injection h1 with _ _ h1;omega
 ·intro hA
  rcases h.2 with ⟨h1,h2⟩ | ⟨g,cap,_,h1,_⟩
  ·injection h1
  ·injection h1 with h1 _ _;rw [hA] at h1;cases h1
 ·refine ⟨by rw [Yz hk,hn,Nat.mul_comm],fun j v hv=>?_⟩
  have hpos:0 < n:=by
   rcases Nat.eq_zero_or_pos n with h0 | h0
   ·subst h0
    have:l=[]:=List.eq_nil_of_length_eq_zero hn
    subst this
    simp at hv
   ·exact h0
  obtain ⟨g,cap,hval,_,hlt⟩:=h.form hpos
  injection hval with hA _ _
  subst hA
  exact ⟨_,rfl,hlt,h.cells (g:=g) rfl j v hv⟩
theorem Rs.lit (hk:∀ a,(enc a).length=k) {w:World} {g t:Nat} {cs:Array Value} (h:Whole w g t cs) (l:List α) {n:Nat} (he:cs=(l.flatMap enc).toArray) (hn:l.length=n):Rs w (some ⟨g,0,none⟩) n n enc k l :=
 ⟨hn,Nat.le_refl _,(fun h=>by cases h),by rw [Yz hk,hn,Nat.mul_comm],fun j v hv=>⟨⟨g,0,none⟩,rfl,h.lt,by
  rw [show (⟨g,0,none⟩:Addr).add j=⟨g,j,none⟩ by unfold Addr.add;split <;> simp_all,h.cell j,he]
  simpa using hv⟩⟩
end
/-! Hints. -/
instance:Inhabited Ht:=⟨Ht.none⟩
theorem htL (h:Ht):(htE h).length=4:=rfl
theorem Zlh (h:Ht):∀ u∈htE h,u.oneCell'=true:=by
 intro u hu
 simp only [htE,List.mem_cons,List.not_mem_nil,or_false] at hu
 rcases hu with rfl | rfl | rfl | rfl <;> first | rfl | simp [Value.oneCell']
abbrev Hts (w:World) (A:Option Addr) (n c:Nat) (l:List Ht):Prop:=Rs w A n c htE 4 l
theorem Hts.at {w:World} {A:Option Addr} {n c:Nat} {l:List Ht} (h:Hts w A n c l) {i:Nat} (hi:i < n):∃ ad x,A=some ad∧l[i]?=some x∧ad.block < w.heap.size ∧
 ∀ w',Grows w w'→w'.cell? (ad.add (i*4))=some (.int .i64 x.kind)∧w'.cell? { block:=(ad.add (i*4)).block,off:=(ad.add (i*4)).off+1 }=some (.string ⟨x.key.toArray⟩) ∧
  w'.cell? { block:=(ad.add (i*4)).block,off:=(ad.add (i*4)).off+2 }=some (.int .i64 x.at_)∧w'.cell? { block:=(ad.add (i*4)).block,off:=(ad.add (i*4)).off+3 }=some (.int .i64 x.size):=by
 obtain ⟨ad,x,h1,h2,h3,h4⟩:=Rs.get htL (by omega) h hi
 refine ⟨ad,x,h1,h2,h3,fun w' hg=>?_⟩
 have key:∀ j u,(htE x)[j]?=some u→w'.cell? ((ad.add (i*4)).add j)=some u:=fun j u hj=>(hg.cell (by rw [Zk,Zk];exact h3)).trans (h4 j u hj)
 have k0:=key 0 _ rfl
 have k1:=key 1 _ rfl
 have k2:=key 2 _ rfl
 have k3:=key 3 _ rfl
 rw [show (ad.add (i*4)).add 0=ad.add (i*4) from by generalize ad.add (i*4)=q;unfold Addr.add;simp] at k0
 rw [Addr.add_succ'] at k1 k2 k3
 exact ⟨k0,k1,k2,k3⟩
theorem ht_at {w:World} {g ty:Nat} {x:Ht} (hw:Whole w g ty #[.int .i64 x.kind,.string ⟨x.key.toArray⟩,.int .i64 x.at_,.int .i64 x.size]):∀ j u,(htE x)[j]?=some u→w.cell? ((⟨g,0,none⟩:Addr).add j)=some u:=by
 intro j u hj
 rw [show (⟨g,0,none⟩:Addr).add j=⟨g,j,none⟩ by unfold Addr.add;split <;> simp_all,hw.cell j]
 simpa [htE] using hj
/-! What was found. -/
def fdE (f:Fd):List Value:=[.int .i64 f.at_,.int .i64 f.size,.int .i64 f.kind,.string ⟨f.key.toArray⟩,.int .i64 f.id,.int .i64 f.no,.int .i64 f.sz,.slice f.locs.1 f.locs.2.1 f.locs.2.2,.slice f.b.1 f.b.2.1 f.b.2.2]
theorem fdL (f:Fd):(fdE f).length=9:=rfl
abbrev Fds (w:World) (A:Option Addr) (n c:Nat) (l:List Fd):Prop:=Rs w A n c fdE 9 l
theorem Fds.at {w:World} {A:Option Addr} {n c:Nat} {l:List Fd} (h:Fds w A n c l) {i:Nat} (hi:i < n):∃ ad x,A=some ad∧l[i]?=some x∧ad.block < w.heap.size ∧
 ∀ w',Grows w w'→w'.cell? (ad.add (i*9))=some (.int .i64 x.at_)∧w'.cell? { block:=(ad.add (i*9)).block,off:=(ad.add (i*9)).off+1 }=some (.int .i64 x.size) ∧
  w'.cell? { block:=(ad.add (i*9)).block,off:=(ad.add (i*9)).off+2 }=some (.int .i64 x.kind)∧w'.cell? { block:=(ad.add (i*9)).block,off:=(ad.add (i*9)).off+3 }=some (.string ⟨x.key.toArray⟩) ∧
  w'.cell? { block:=(ad.add (i*9)).block,off:=(ad.add (i*9)).off+4 }=some (.int .i64 x.id)∧w'.cell? { block:=(ad.add (i*9)).block,off:=(ad.add (i*9)).off+5 }=some (.int .i64 x.no) ∧
  w'.cell? { block:=(ad.add (i*9)).block,off:=(ad.add (i*9)).off+6 }=some (.int .i64 x.sz)∧w'.cell? { block:=(ad.add (i*9)).block,off:=(ad.add (i*9)).off+7 }=some (.slice x.locs.1 x.locs.2.1 x.locs.2.2) ∧
  w'.cell? { block:=(ad.add (i*9)).block,off:=(ad.add (i*9)).off+8 }=some (.slice x.b.1 x.b.2.1 x.b.2.2):=by
 obtain ⟨ad,x,h1,h2,h3,h4⟩:=Rs.get fdL (by omega) h hi
 refine ⟨ad,x,h1,h2,h3,fun w' hg=>?_⟩
 have key:∀ j u,(fdE x)[j]?=some u→w'.cell? ((ad.add (i*9)).add j)=some u:=fun j u hj=>(hg.cell (by rw [Zk,Zk];exact h3)).trans (h4 j u hj)
 have k0:=key 0 _ rfl
 have k1:=key 1 _ rfl
 have k2:=key 2 _ rfl
 have k3:=key 3 _ rfl
 have k4:=key 4 _ rfl
 have k5:=key 5 _ rfl
 have k6:=key 6 _ rfl
 have k7:=key 7 _ rfl
 have k8:=key 8 _ rfl
 rw [show (ad.add (i*9)).add 0=ad.add (i*9) from by generalize ad.add (i*9)=q;unfold Addr.add;simp] at k0
 rw [Addr.add_succ'] at k1 k2 k3 k4 k5 k6 k7 k8
 exact ⟨k0,k1,k2,k3,k4,k5,k6,k7,k8⟩
end Go.Proofs.YtkelafkbmnjpeaaGreat
