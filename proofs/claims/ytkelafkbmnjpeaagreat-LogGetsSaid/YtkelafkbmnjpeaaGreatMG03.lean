/-
  Texts that the statements lean on, one behind the other.
-/
import Derived.Test.YtkelafkbmnjpeaaGreatMG01
import Derived.StillTail
import Derived.Shelf.Small.Bits
import Derived.Shelf.Small.Strs
import Derived.Shelf.Small.Wraps
import Derived.Shelf.Strconv.Itoa0
import Derived.Shelf.LaysM
import Derived.Shelf.Strconv.Clone
import Derived.Shelf.Strings.Search1
import Derived.Shelf.Sort.Plain
import Derived.Shelf.Slices.Turned
import Derived.Ground.Names2Prog
import Derived.Shelf.Slices.Clone
import Derived.Shelf.Slices.CompactI
import Derived.Shelf.Slices.SearchI
import Derived.Shelf.Slices.Cells
import Derived.Shelf.Slices.In.SortNone
import Derived.Shelf.Slices.Empties
import Derived.Shelf.Bytes.SlSearch0
import Derived.Ground.SlbCloneProg
import Derived.Shelf.Bytes.SlClone
import Derived.Ground.SlgnProg
import Derived.Shelf.SlicesE.Compact
import Derived.Ground.SlgfProg
import Derived.Shelf.SlicesE.IndexFunc
import Derived.Shelf.SlicesE.DeleteFunc
import Derived.Shelf.Bytes.SlEqualAll
import Derived.Shelf.Bytes.Small
import Derived.Test.YtkelafkbmnjpeaaGreatProg
import Derived.Test.YtkelafkbmnjpeaaGreatMG02
namespace Go.Proofs.YtkelafkbmnjpeaaGreat
open Go.RowKit
section
variable {P:Program} {md:Region.Mode} {ops:Array Oper} {E:World→World→Prop} {W:World}
def Zad (P:Program) (md:Region.Mode) (ops:Array Oper) (E:World→World→Prop) (W:World) (n g:Nat) (Fs:Nat→Fact E) (Z:Act→World→Prop):Nat→Array Bool→Known→Act→Prop
 | 0,listed,ks,a=>Region.seqB md ops g n listed=true∧∀ w,E W w→ks.all w→Z a w
 | f+1,listed,ks,a=>Region.ready md ops listed≠[]∧∀ i∈Region.ready md ops listed,i < n∧fOp P ops E W Fs i (Zad P md ops E W n g Fs Z f (listed.setIfInBounds i true)) ks a
theorem Zau {n g:Nat} {Fs:Nat→Fact E} {Z:Act→World→Prop}:∀ (f:Nat) (listed:Array Bool) (ks ks':Known) (a:Act),(∀ k∈ks,k∈ks')→Zad P md ops E W n g Fs Z f listed ks a→Zad P md ops E W n g Fs Z f listed ks' a
 | 0,_,_,_,_,hk,h=>⟨h.1,fun w hw ha=>h.2 w hw fun k hk'=>ha k (hk k hk')⟩
 | f+1,listed,ks,ks',a,hk,h=>by
   refine ⟨h.1,fun i hi=>⟨(h.2 i hi).1,?_⟩⟩
   have h1:=(h.2 i hi).2
   unfold fOp at *
   split
   ·rename_i ho;simp only [ho] at h1;exact Zau f _ ks ks' a hk h1
   ·rename_i o ho
    simp only [ho] at h1
    unfold fStep at *
    split
    ·rename_i hw
     simp only [hw,if_true] at h1
     refine ⟨fun w hw' hf=>h1.1 w hw' fun k hk'=>hf k (hk k hk'),fun x=>Zau f _ _ _ _ (fun k hk'=>?_) (h1.2 x)⟩
     rcases List.mem_cons.1 hk' with rfl | hk'
     ·exact List.mem_cons_self
     ·exact List.mem_cons_of_mem _ (hk k hk')
    ·rename_i hw
     simp only [hw] at h1
     exact Zau f _ ks ks' _ hk h1
theorem Zjc {n g:Nat} {Fs:Nat→Fact E} {Z:Act→World→Prop} {i:Nat} {oi:Oper} (hi:ops[i]?=some oi) (hsel:∀ (j:Nat) (o:Oper) cs b,ops[j]?=some o→o.op≠.select cs b)
 (hs:Region.sinkB md ops n=true) (hc:Region.chainB md ops n=true) (hn:n < ops.size) (hin:i < n) :
 ∀ (fuel:Nat) (listed:Array Bool) (ks:Known) (a:Act),HeadInv md ops n listed →
  (∀ j oj,ops[j]?=some oj→j≠i→listed.getD j true=false→(∀ e∈oj.after,Region.binds md e=true→e.on≠i)→oi.apart ops oj=true) →
  i∈Region.ready md ops listed→fStep P ops E W (Fs i) oi (Zad P md ops E W n g Fs Z fuel (listed.setIfInBounds i true)) ks a→Zad P md ops E W n g Fs Z (fuel+1) listed ks a:=by
 intro fuel
 induction fuel with
 | zero =>
   intro listed ks a inv _ hr H
   have hun:=(mem_ready.1 hr).1
   refine ⟨fun h=>(by rw [h] at hr;cases hr),fun j hj=>?_⟩
   have hjn:j < n:=by
    rcases Nat.lt_or_ge j n with h | h
    ·exact h
    ·exact absurd hj (tail_waits hs hc hn inv _ i rfl hin hun j h)
   refine ⟨hjn,?_⟩
   by_cases hji:j=i
   ·subst hji;unfold fOp;simp only [hi];exact H
   ·have hseq:Region.seqB md ops g n (listed.setIfInBounds i true)=true:=by
     unfold fStep at H
     split at H
     ·exact (H.2 (Fs i).x0).1
     ·exact H.1
    have:=seqB_ready hseq j (ready_mono hj hji)
    omega
 | succ fuel ih =>
   intro listed ks a inv hfree hr H
   have hun:=(mem_ready.1 hr).1
   refine ⟨fun h=>(by rw [h] at hr;cases hr),fun j hj=>?_⟩
   have hjn:j < n:=by
    rcases Nat.lt_or_ge j n with h | h
    ·exact h
    ·exact absurd hj (tail_waits hs hc hn inv _ i rfl hin hun j h)
   refine ⟨hjn,?_⟩
   by_cases hji:j=i
   ·subst hji;unfold fOp;simp only [hi];exact H
   ·have hjr:=ready_mono hj hji
    obtain ⟨hjun,oj,hoj,hall⟩:=mem_ready.1 hj
    have hnot:∀ e∈oj.after,Region.binds md e=true→e.on≠i:=fun e he hb heq=>by
     have h1:=hall e he hb
     rw [heq,getD_both hun] at h1
     cases h1
    have hap:=hfree j oj hoj hji hjun hnot
    obtain ⟨p1,p2,p3⟩:=Oper.apart_spec hap
    have hsi:=fun cs b=>hsel i oi cs b hi
    have hsj:=fun cs b=>hsel j oj cs b hoj
    have hfree':∀ k ok,ops[k]?=some ok→k≠i→(listed.setIfInBounds j true).getD k true=false →
     (∀ e∈ok.after,Region.binds md e=true→e.on≠i)→oi.apart ops ok=true:=fun k ok hk hki hun hno=>by
     refine hfree k ok hk hki ?_ hno
     by_cases hjk:j=k
     ·subst hjk;exact hjun
     ·rw [getD_set_ne true hjk] at hun;exact hun
    have hri:=ready_mono hr (Ne.symm hji)
    have inv':=inv.set hj hjn
    unfold fOp
    simp only [hoj]
    by_cases hwi:Region.wanted oi (yielded ops a.tmps)=true
    ·unfold fStep at H
     simp only [hwi,if_true] at H
     obtain ⟨hgi,hK⟩:=H
     have hJ:∀ x,fStep P ops E W (Fs j) oj (Zad P md ops E W n g Fs Z fuel ((listed.setIfInBounds i true).setIfInBounds j true)) ((oi.dst,(Fs i).R x) :: ks) (a.put oi.dst ((Fs i).val x)):=fun x=>by
      have:=((hK x).2 j hjr).2
      unfold fOp at this
      simp only [hoj] at this
      exact this
     unfold fStep
     by_cases hwj:Region.wanted oj (yielded ops a.tmps)=true
     ·simp only [hwj,if_true]
      have hJ':∀ x,(∀ w,E W w→Known.for ((oi.dst,(Fs i).R x) :: ks) (oj.looksAt ops) w→gives P (Fs j) oj (a.put oi.dst ((Fs i).val x)).eval w) ∧
       ∀ y,Zad P md ops E W n g Fs Z fuel ((listed.setIfInBounds i true).setIfInBounds j true) ((oj.dst,(Fs j).R y) :: (oi.dst,(Fs i).R x) :: ks) ((a.put oi.dst ((Fs i).val x)).put oj.dst ((Fs j).val y)):=fun x=>by
       have:=hJ x
       unfold fStep at this
       rw [wanted_put oj a oi.dst _ p1] at this
       simp only [hwj,if_true] at this
       exact this
      refine ⟨fun w hw hf=>?_,fun y=>ih _ _ _ inv' hfree' hri ?_⟩
      ·have:=(hJ' (Fs i).x0).1 w hw (Zdg p1 hf)
       unfold gives at *
       rwa [execOp_put oj hsj a oi.dst _ p1] at this
      ·unfold fStep
       rw [wanted_put oi a oj.dst _ p3]
       simp only [hwi,if_true]
       refine ⟨fun w hw hf=>?_,fun x=>?_⟩
       ·have:=hgi w hw (Zen hf)
        unfold gives at *
        rwa [execOp_put oi hsi a oj.dst _ p3]
       ·have:=(hJ' x).2 y
        rw [Array.setIfInBounds_comm _ _ hji,←Act.put_comm a _ _ p2]
        exact Zau _ _ _ _ _ (Zeo _ _ _) this
     ·simp only [hwj]
      have hJ':∀ x,Zad P md ops E W n g Fs Z fuel ((listed.setIfInBounds i true).setIfInBounds j true) ((oi.dst,(Fs i).R x) :: ks) ((a.put oi.dst ((Fs i).val x)).put oj.dst undef):=fun x=>by
       have:=hJ x
       unfold fStep at this
       rw [wanted_put oj a oi.dst _ p1] at this
       simp only [hwj] at this
       exact this
      refine ih _ _ _ inv' hfree' hri ?_
      unfold fStep
      rw [wanted_put oi a oj.dst _ p3]
      simp only [hwi,if_true]
      refine ⟨fun w hw hf=>?_,fun x=>?_⟩
      ·have:=hgi w hw hf
       unfold gives at *
       rwa [execOp_put oi hsi a oj.dst _ p3]
      ·rw [Array.setIfInBounds_comm _ _ hji,←Act.put_comm a _ _ p2]
       exact hJ' x
    ·unfold fStep at H
     simp only [hwi] at H
     have hJ:fStep P ops E W (Fs j) oj (Zad P md ops E W n g Fs Z fuel ((listed.setIfInBounds i true).setIfInBounds j true)) ks (a.put oi.dst undef):=by
      have:=(H.2 j hjr).2
      unfold fOp at this
      simp only [hoj] at this
      exact this
     unfold fStep at *
     rw [wanted_put oj a oi.dst _ p1] at hJ
     by_cases hwj:Region.wanted oj (yielded ops a.tmps)=true
     ·simp only [hwj,if_true] at *
      refine ⟨fun w hw hf=>?_,fun y=>ih _ _ _ inv' hfree' hri ?_⟩
      ·have:=hJ.1 w hw hf
       unfold gives at *
       rwa [execOp_put oj hsj a oi.dst _ p1] at this
      ·rw [wanted_put oi a oj.dst _ p3]
       simp only [hwi]
       have:=hJ.2 y
       rw [Array.setIfInBounds_comm _ _ hji,←Act.put_comm a _ _ p2]
       exact this
     ·simp only [hwj] at *
      refine ih _ _ _ inv' hfree' hri ?_
      rw [wanted_put oi a oj.dst _ p3]
      simp only [hwi]
      rw [Array.setIfInBounds_comm _ _ hji,←Act.put_comm a _ _ p2]
      exact hJ
theorem Zge {n g:Nat} {Fs:Nat→Fact E} {Z:Act→World→Prop} (hsel:Region.noSelect ops=true) (hs:Region.sinkB md ops n=true) (hc:Region.chainB md ops n=true) (hn:n < ops.size) :
 ∀ (l:List Oper) (k:Nat) (fs:List (Fact E)) (listed:Array Bool) (ks:Known) (a:Act),(∀ j,j < l.length→l[j]?=ops[k+j]?)→(∀ j F,fs[j]?=some F→Fs (k+j)=F)→k+l.length=n→HeadInv md ops n listed →
  Region.lexHead md ops g l.length k listed=true→wpF P ops E W Z l fs ks a→Zad P md ops E W n g Fs Z l.length listed ks a
 | [],k,fs,listed,ks,a,_,_,hk,_,hB,h=>by
   have:k=n:=by simpa using hk
   subst this
   refine ⟨by simpa [Region.lexHead] using hB,?_⟩
   unfold wpF at h
   exact h
 | o :: l,k,[],listed,ks,a,hl,hF,hk,inv,hB,h=>h.elim
 | o :: l,k,F :: fs,listed,ks,a,hl,hF,hk,inv,hB,h=>by
   have h0:ops[k]?=some o:=by simpa using (hl 0 (by simp)).symm
   have hF0:Fs k=F:=by simpa using hF 0 F rfl
   simp only [List.length_cons,Region.lexHead,Bool.and_eq_true] at hB
   obtain ⟨⟨hr,hf⟩,hB'⟩:=hB
   have hkn:k < n:=by simp only [List.length_cons] at hk;omega
   have hr':k∈Region.ready md ops listed:=by simpa using hr
   refine Zjc h0 (Region.noSelect_spec hsel) hs hc hn hkn l.length listed ks a inv (Region.free_spec h0 hf) hr' ?_
   rw [hF0]
   exact Zh9 (fun ks a h=>Zge hsel hs hc hn l (k+1) fs _ ks a (fun j hj=>by have:=hl (j+1) (by simp;omega);simpa [Nat.add_assoc,Nat.add_comm 1 j] using this)
    (fun j F' hj=>by have:=hF (j+1) F' (by simpa using hj);simpa [Nat.add_assoc,Nat.add_comm 1 j] using this) (by simp only [List.length_cons] at hk;omega) (inv.set hr' hkn) hB' h) h
theorem Jb {n g:Nat} {Fs:Nat→Fact E} {Z:Act→World→Prop} {Q':Exit→Act→World→Prop} (ht:∀ a b c,E a b→E b c→E a c) (hZ:∀ listed a w,Region.seqB md ops g n listed=true→Z a w→wpAny P md ops Q' g listed a w) :
 ∀ (f:Nat) (listed:Array Bool) (ks:Known) (a:Act) (w:World),E W w→ks.all w→(∀ k∈ks,∀ w w',k.2 w→E w w'→k.2 w')→Zad P md ops E W n g Fs Z f listed ks a→wpAny P md ops Q' (f+g) listed a w
 | 0,listed,ks,a,w,hw,ha,_,h=>by rw [Nat.zero_add];exact hZ _ _ _ h.1 (h.2 w hw ha)
 | f+1,listed,ks,a,w,hw,ha,hst,h=>by
   rw [show f+1+g=(f+g)+1 by omega]
   refine ⟨fun h0=>absurd h0 h.1,fun i hi=>?_⟩
   have h1:=(h.2 i hi).2
   unfold fOp at h1
   unfold wpOp
   split
   ·rename_i ho;simp only [ho] at h1;exact Jb ht hZ f _ ks a w hw ha hst h1
   ·rename_i o ho
    simp only [ho] at h1
    unfold fStep at h1
    split
    ·rename_i hwd
     simp only [hwd,if_true] at h1
     obtain ⟨hg,hK⟩:=h1
     have hg':=hg w hw (Known.all_for ha)
     have go:∀ x w',E w w'→(Fs i).R x w'→wpAny P md ops Q' (f+g) (listed.setIfInBounds i true) (a.put o.dst ((Fs i).val x)) w':=fun x w' he hR =>
      Jb ht hZ f _ _ _ w' (ht _ _ _ hw he) (fun k hk=>by
       rcases List.mem_cons.1 hk with rfl | hk
       ·exact hR
       ·exact hst k hk _ _ (ha k hk) he) (fun k hk=>by
       rcases List.mem_cons.1 hk with rfl | hk
       ·exact (Fs i).stays x
       ·exact hst k hk) (hK x)
     left
     unfold gives at hg'
     unfold Oper.wp
     generalize (execOp a.eval o).run P w=r at *
     cases r with
     | ok n w' =>
       cases n <;> simp only [Zb6] at hg' <;> simp only [Oper.upon]
       case value u=>obtain ⟨he,x,rfl,hR⟩:=hg';exact go x w' he hR
       case skip=>obtain ⟨he,x,hx,hR⟩:=hg';rw [hx];exact go x w' he hR
       case enter f args=>exact hg'.mono fun e w'' ⟨he,x,hx,hR⟩=>by subst hx;exact go x w'' he hR
     | halt x w'=>simp only [Zb6] at hg'
    ·rename_i hwd
     simp only [hwd] at h1
     exact Jb ht hZ f _ ks _ w hw ha hst h1
theorem Ze {id:Nat} {Q:Exit→Act→World→Prop} {a:Act} {w:World} {l:List Oper} (n:Nat) (fs:List (Fact E)) (hm:P.follows .mixedOrders=true) (hB:Region.lexTailB .any l.toArray n=true)
 (ht:∀ a b c,E a b→E b c→E a c) (hd:E w { w with drawn:=w.drawn+1 }) (h:wpF P l.toArray E w (fun a' w'=>wpList P l.toArray Q (l.drop n) a' w') (l.take n) fs [] a):(Code.region id l.toArray true).wp P Q a w:=by
 simp only [Region.lexTailB,Bool.and_eq_true,decide_eq_true_eq] at hB
 obtain ⟨⟨⟨⟨hsel,hn⟩,hs⟩,hc⟩,hlex⟩:=hB
 have hn':n < l.length:=by simpa using hn
 have htl:(l.take n).length=n:=by simp;omega
 have hdl:(l.drop n).length=l.toArray.size - n:=by simp
 have inv0:HeadInv .any l.toArray n (Array.replicate l.toArray.size false) :=
  ⟨by simp,fun j oj _ hl=>(by rw [getD_replicate_false] at hl;cases hl),fun t _ ht=>getD_in (by simpa using ht) (getD_replicate_false _ _)⟩
 have H:=Zge (P:=P) (md:=.any) (E:=E) (W:=w) (g:=l.toArray.size - n) (Fs:=fun i=>(fs[i]?).getD ⟨Unit,(),fun _=>undef,fun _ _=>True,fun _ _ _ _ _=>trivial⟩) (Z:=fun a' w'=>wpList P l.toArray Q (l.drop n) a' w') hsel hs hc hn (l.take n) 0 fs _ [] a (fun j hj=>by
  have hj':j < n:=by rw [htl] at hj;exact hj
  simp [hj']) (fun j F hj=>by simp only [Nat.zero_add,hj,Option.getD_some]) (by simpa using htl) inv0 (by rw [htl];exact hlex) h
 refine wp_region_any hm ?_
 have:=Jb (Q':=Q) ht (fun listed a' w' hseq hL=>by
  have:=wpAny_of_seq (md:=.any) (Q':=Q) (l.drop n) n listed a' w' (fun j=>by simp [List.getElem?_drop]) (by rw [hdl];exact hseq) hL
  rwa [hdl] at this) _ _ _ _ { w with drawn:=w.drawn+1 } hd (fun k hk=>by cases hk) (fun k hk=>by cases hk) H
 rw [htl,show n+(l.toArray.size - n)=l.toArray.size by omega] at this
 exact this
end
end Go.Proofs.YtkelafkbmnjpeaaGreat
namespace Go.Proofs.YtkelafkbmnjpeaaGreat
open Go.RowKit
def Zqo (t:TypeId) (cs:Array Value) (n:Nat):Fact Grows:=⟨Nat,0,fun g=>.slice (some ⟨g,0,none⟩) n n,fun g w=>Whole w g t cs,fun _ _ _ h g=>Grows.whole g h⟩
theorem Known.at {ks:Known} {w:World} (h:ks.all w) (i:Nat) {d:Option Tmp} {R:World→Prop} (hi:ks[i]?=some (d,R)):R w:=h _ (List.mem_of_getElem? hi)
section
variable {P:Program} {ops:Array Oper} {W:World} {Q:Act→World→Prop} {o:Oper} {rest:List Oper} {fs:List (Fact Grows)} {ks:Known} {a:Act}
theorem Zxe (t:TypeId) (cs:Array Value) (n:Nat) (hw:Region.wanted o (yielded ops a.tmps)=true) (h1:∀ w,Grows W w→(execOp a.eval o).run P w=.ok (.value (.slice (some ⟨w.heap.size,0,none⟩) n n)) (w.alloc (.cells cs t)))
 (h2:∀ g,wpF P ops Grows W Q rest fs ((o.dst,fun w=>Whole w g t cs) :: ks) (a.put o.dst (.slice (some ⟨g,0,none⟩) n n))) :
 wpF P ops Grows W Q (o :: rest) (Zqo t cs n :: fs) ks a:=by
 unfold wpF fStep
 rw [if_pos hw]
 refine ⟨fun w hW hk=>?_,fun g=>h2 g⟩
 unfold gives
 rw [h1 w hW]
 exact ⟨Za _ _,w.heap.size,rfl,Whole.made _ _ _⟩
theorem Zu {ops:Array Oper} {W:World} {Q:Act→World→Prop} {fs:List (Fact Grows)} {ks:Known} {a:Act} (h:∀ w,Grows W w→ks.all w→Q a w):wpF P ops Grows W Q [] fs ks a:=h
end
theorem mixed:Tryz.prog.follows .mixedOrders=true:=by kernel_rfl
end Go.Proofs.YtkelafkbmnjpeaaGreat
namespace Go.Proofs.YtkelafkbmnjpeaaGreat
open Go.Shelf
def lays213_ren:Go.Shelf.Ren:=⟨fun | 213=>271 | 265=>307 | n=>n,fun | 9=>9 | 3=>3 | n=>n,fun | n=>n⟩
def lays106_ren:Go.Shelf.Ren:=⟨fun | 106=>210 | 213=>271 | 265=>307 | n=>n,fun | 9=>9 | 3=>3 | n=>n,fun | n=>n⟩
theorem lays106:Go.Proofs.Lays.n106 Tryz.prog lays106_ren:={
  mixed:=by kernel_rfl
  f106:=Tryz.func210.trans (congrArg some (by kernel_rfl))
  f213:=Tryz.func271.trans (congrArg some (by kernel_rfl))
  f265:=Tryz.func307.trans (congrArg some (by kernel_rfl))
  t3:=Tryz.underlying3
  a3:=Tryz.isAgg3
  z3:=Tryz.sizeOf3
  v3:=Tryz.zeroValue3
  t9:=Tryz.underlying9
  a9:=Tryz.isAgg9
  z9:=Tryz.sizeOf9
  v9:=Tryz.zeroValue9 }
open Go.RowKit in
theorem strings_Compare (a b:ByteArray) (w:World) :
    Calls Tryz.prog 210 #[.string a,.string b] w fun e w'=>e=.returned (.int .i64 (Lib.compareBytes a.data.toList b.data.toList))∧w'=w:=Any.strings_Compare lays106 a b w
def lays137_ren:Go.Shelf.Ren:=⟨fun | 137=>256 | 217=>294 | 266=>311 | n=>n,fun | 9=>9 | 5=>5 | 3=>3 | n=>n,fun | n=>n⟩
theorem lays137:Go.Proofs.Lays.n137 Tryz.prog lays137_ren:={
  mixed:=by kernel_rfl
  f137:=Tryz.func256.trans (congrArg some (by kernel_rfl))
  f217:=Tryz.func294.trans (congrArg some (by kernel_rfl))
  f266:=Tryz.func311.trans (congrArg some (by kernel_rfl))
  t3:=Tryz.underlying3
  a3:=Tryz.isAgg3
  z3:=Tryz.sizeOf3
  v3:=Tryz.zeroValue3
  t5:=Tryz.underlying5
  a5:=Tryz.isAgg5
  z5:=Tryz.sizeOf5
  v5:=Tryz.zeroValue5
  t9:=Tryz.underlying9
  a9:=Tryz.isAgg9
  z9:=Tryz.sizeOf9
  v9:=Tryz.zeroValue9 }
open Go.RowKit in
theorem strings_IndexByte (s:ByteArray) (c:Int) (w:World) :
    Calls Tryz.prog 256 #[.string s,.int .u8 c] w fun e w'=>e=.returned (.int .i64 (Lib.indexByte s.data.toList c.toNat.toUInt8))∧w'=w:=Any.strings_IndexByte lays137 s c w
def laysM316_ren:Go.Shelf.Ren:=⟨fun | 316=>303 | n=>n,fun | 9=>9 | 3=>3 | 4=>4 | 37=>37 | 0=>0 | 127=>317 | 5=>5 | n=>n,fun | n=>n⟩
theorem laysM316:Go.Proofs.LaysM.n316 Tryz.prog laysM316_ren:={
  mixed:=by kernel_rfl
  f316:=Tryz.func303.trans (congrArg some (by kernel_rfl))
  t0:=Tryz.underlying0
  a0:=Tryz.isAgg0
  z0:=Tryz.sizeOf0
  v0:=Tryz.zeroValue0
  t3:=Tryz.underlying3
  a3:=Tryz.isAgg3
  z3:=Tryz.sizeOf3
  v3:=Tryz.zeroValue3
  t4:=Tryz.underlying4
  a4:=Tryz.isAgg4
  z4:=Tryz.sizeOf4
  v4:=Tryz.zeroValue4
  t9:=Tryz.underlying9
  a9:=Tryz.isAgg9
  z9:=Tryz.sizeOf9
  v9:=Tryz.zeroValue9
  t37:=Tryz.underlying37
  a37:=Tryz.isAgg37
  z37:=Tryz.sizeOf37
  v37:=Tryz.zeroValue37
  t127:=Tryz.underlying317
  a127:=Tryz.isAgg317
  z127:=Tryz.sizeOf317
  v127:=Tryz.zeroValue317
  t5:=Tryz.underlying5
  a5:=Tryz.isAgg5
  z5:=Tryz.sizeOf5
  v5:=Tryz.zeroValue5
  i0:=by kernel_rfl
  i3:=by kernel_rfl
  i4:=by kernel_rfl
  i5:=by kernel_rfl
  i9:=by kernel_rfl
  i37:=by kernel_rfl
  i127:=by kernel_rfl }
open Go.RowKit in
theorem stringslite_Clone (s:ByteArray) (w:World) (hlim:s.size≤281474976710656) :
    Calls Tryz.prog 303 #[.string s] w fun e w'=>e=.returned (.string s)∧Below w.heap.size w w':=Any.stringslite_Clone laysM316 s w hlim
def lays189_ren:Go.Shelf.Ren:=⟨fun | 189=>184 | 125=>181 | 257=>258 | 128=>254 | 129=>255 | 294=>295 | 295=>296 | 296=>297 | 297=>298 | 298=>299 | 299=>300 | 216=>211 | 300=>301 | 301=>302 | 328=>312 | 329=>289 | 330=>290 | 331=>313 | 332=>314 | 215=>272 | 343=>323 | n=>n,fun | 28=>40 | 3=>3 | 46=>159 | 0=>0 | 51=>41 | 53=>158 | 4=>4 | 183=>274 | 182=>273 | 131=>53 | 5=>5 | 9=>9 | 218=>299 | 222=>303 | 228=>313 | 229=>173 | n=>n,fun | n=>n⟩
theorem lays189:Go.Proofs.Lays.n189 Tryz.prog lays189_ren:={
  mixed:=by kernel_rfl
  f125:=Tryz.func181.trans (congrArg some (by kernel_rfl))
  f128:=Tryz.func254.trans (congrArg some (by kernel_rfl))
  f129:=Tryz.func255.trans (congrArg some (by kernel_rfl))
  f189:=Tryz.func184.trans (congrArg some (by kernel_rfl))
  f215:=Tryz.func272.trans (congrArg some (by kernel_rfl))
  f216:=Tryz.func211.trans (congrArg some (by kernel_rfl))
  f257:=Tryz.func258.trans (congrArg some (by kernel_rfl))
  f294:=Tryz.func295.trans (congrArg some (by kernel_rfl))
  f295:=Tryz.func296.trans (congrArg some (by kernel_rfl))
  f296:=Tryz.func297.trans (congrArg some (by kernel_rfl))
  f297:=Tryz.func298.trans (congrArg some (by kernel_rfl))
  f298:=Tryz.func299.trans (congrArg some (by kernel_rfl))
  f299:=Tryz.func300.trans (congrArg some (by kernel_rfl))
  f300:=Tryz.func301.trans (congrArg some (by kernel_rfl))
  f301:=Tryz.func302.trans (congrArg some (by kernel_rfl))
  f328:=Tryz.func312.trans (congrArg some (by kernel_rfl))
  f329:=Tryz.func289.trans (congrArg some (by kernel_rfl))
  f330:=Tryz.func290.trans (congrArg some (by kernel_rfl))
  f331:=Tryz.func313.trans (congrArg some (by kernel_rfl))
  f332:=Tryz.func314.trans (congrArg some (by kernel_rfl))
  f343:=Tryz.func323.trans (congrArg some (by kernel_rfl))
  t0:=Tryz.underlying0
  a0:=Tryz.isAgg0
  z0:=Tryz.sizeOf0
  v0:=Tryz.zeroValue0
  t3:=Tryz.underlying3
  a3:=Tryz.isAgg3
  z3:=Tryz.sizeOf3
  v3:=Tryz.zeroValue3
  t4:=Tryz.underlying4
  a4:=Tryz.isAgg4
  z4:=Tryz.sizeOf4
  v4:=Tryz.zeroValue4
  t5:=Tryz.underlying5
  a5:=Tryz.isAgg5
  z5:=Tryz.sizeOf5
  v5:=Tryz.zeroValue5
  t9:=Tryz.underlying9
  a9:=Tryz.isAgg9
  z9:=Tryz.sizeOf9
  v9:=Tryz.zeroValue9
  t28:=Tryz.underlying40
  a28:=Tryz.isAgg40
  z28:=Tryz.sizeOf40
  v28:=Tryz.zeroValue40
  t46:=Tryz.underlying159
  a46:=Tryz.isAgg159
  z46:=Tryz.sizeOf159
  v46:=Tryz.zeroValue159
  t51:=Tryz.underlying41
  a51:=Tryz.isAgg41
  z51:=Tryz.sizeOf41
  v51:=Tryz.zeroValue41
  t53:=Tryz.underlying158
  a53:=Tryz.isAgg158
  z53:=Tryz.sizeOf158
  v53:=Tryz.zeroValue158
  t131:=Tryz.underlying53
  a131:=Tryz.isAgg53
  z131:=Tryz.sizeOf53
  v131:=Tryz.zeroValue53
  t182:=Tryz.underlying273
  a182:=Tryz.isAgg273
  z182:=Tryz.sizeOf273
  v182:=Tryz.zeroValue273
  t183:=Tryz.underlying274
  a183:=Tryz.isAgg274
  z183:=Tryz.sizeOf274
  v183:=Tryz.zeroValue274
  t218:=Tryz.underlying299
  a218:=Tryz.isAgg299
  z218:=Tryz.sizeOf299
  v218:=Tryz.zeroValue299
  t222:=Tryz.underlying303
  a222:=Tryz.isAgg303
  z222:=Tryz.sizeOf303
  v222:=Tryz.zeroValue303
  t228:=Tryz.underlying313
  a228:=Tryz.isAgg313
  z228:=Tryz.sizeOf313
  v228:=Tryz.zeroValue313
  t229:=Tryz.underlying173
  a229:=Tryz.isAgg173
  z229:=Tryz.sizeOf173
  v229:=Tryz.zeroValue173 }
open Go.Sort Go.RowKit in
theorem slices_Sort_int (blk off cap:Nat) (zs:List Int) (w:World) (hH:Holds (Value.int .i64) w blk off zs.toArray) (hblk:blk < w.heap.size) (hsz:zs.length < 4611686018427387904) :
    Calls Tryz.prog 184 #[.slice (some ⟨blk,off,none⟩) zs.length cap] w fun e w' =>
      e=.returned (.tuple #[])∧∃ n os,w'=grow (putRow (Value.int .i64) (Sort.ahead w n) blk off (zs.mergeSort fun x y=>decide (x≤y)).toArray) os:=Any.slices_Sort_int lays189 blk off cap zs w hH hblk hsz
def laysNm215_ren:Go.Shelf.Ren:=⟨fun | 15=>71 | n=>n,fun | 22=>40 | 3=>3 | 4=>4 | n=>n,fun | n=>n⟩
theorem laysNm215:Go.Proofs.Lays2.n15 Tryz.prog laysNm215_ren:={
  mixed:=by kernel_rfl
  f15:=Tryz.func71.trans (congrArg some (by kernel_rfl))
  t3:=Tryz.underlying3
  a3:=Tryz.isAgg3
  z3:=Tryz.sizeOf3
  v3:=Tryz.zeroValue3
  t4:=Tryz.underlying4
  a4:=Tryz.isAgg4
  z4:=Tryz.sizeOf4
  v4:=Tryz.zeroValue4
  t22:=Tryz.underlying40
  a22:=Tryz.isAgg40
  z22:=Tryz.sizeOf40
  v22:=Tryz.zeroValue40
  i3:=by kernel_rfl }
open Go.RowKit Go.Lib in
theorem slices_Clone_int (b off n c:Nat) (zs:List Int) (w:World) (hz:n≤zs.length) (hbig:n*8≤140737488355328) (hc:∀ j,j < zs.length→w.cell? ⟨b,off+j,none⟩=some (.int .i64 (zs.getD j 0))) :
    Calls Tryz.prog 71 #[.slice (some ⟨b,off,none⟩) n c] w fun e w'=>∃ v',e=.returned v'∧w'.ownsRow w.heap.size 3 1 v' n ((zs.take n).map (Value.int .i64))∧v'≠.slice none 0 0∧Below w.heap.size w w':=Any.slices_Clone_int laysNm215 b off n c zs w hz hbig hc
open Go.RowKit Go.Lib in
theorem slices_Clone_int_nil (n c:Nat) (w:World) :
    Calls Tryz.prog 71 #[.slice none n c] w fun e w'=>e=.returned (.slice none 0 0)∧w'=w:=Any.slices_Clone_int_nil laysNm215 n c w
def laysNm220_ren:Go.Shelf.Ren:=⟨fun | 20=>185 | n=>n,fun | 22=>40 | 3=>3 | 4=>4 | 0=>0 | n=>n,fun | n=>n⟩
theorem laysNm220:Go.Proofs.Lays2.n20 Tryz.prog laysNm220_ren:={
  mixed:=by kernel_rfl
  f20:=Tryz.func185.trans (congrArg some (by kernel_rfl))
  t0:=Tryz.underlying0
  a0:=Tryz.isAgg0
  z0:=Tryz.sizeOf0
  v0:=Tryz.zeroValue0
  t3:=Tryz.underlying3
  a3:=Tryz.isAgg3
  z3:=Tryz.sizeOf3
  v3:=Tryz.zeroValue3
  t4:=Tryz.underlying4
  a4:=Tryz.isAgg4
  z4:=Tryz.sizeOf4
  v4:=Tryz.zeroValue4
  t22:=Tryz.underlying40
  a22:=Tryz.isAgg40
  z22:=Tryz.sizeOf40
  v22:=Tryz.zeroValue40
  i3:=by kernel_rfl }
open Go.RowKit Go.Lib Go.Sort in
theorem slices_Compact_int (blk off cap:Nat) (zs:List Int) (w:World) (hH:Holds (Value.int .i64) w blk off zs.toArray) (hsz:zs.length≤9223372036854775807) (hcap:zs.length≤cap) :
    Calls Tryz.prog 185 #[.slice (some ⟨blk,off,none⟩) zs.length cap] w fun e w'=>e=.returned (.slice (some ⟨blk,off,none⟩) (Lib.compact zs).length cap)∧∃ q,w'=putRow (Value.int .i64) (Sort.ahead w q) blk off (Lib.compact zs++List.replicate (zs.length - (Lib.compact zs).length) 0).toArray:=Any.slices_Compact_int laysNm220 blk off cap zs w hH hsz hcap
open Go.RowKit Go.Lib Go.Sort in
theorem slices_Compact_int_empty (a:Option Addr) (cap:Nat) (w:World) :
    Calls Tryz.prog 185 #[.slice a 0 cap] w fun e w'=>e=.returned (.slice a 0 cap)∧w'=w:=Any.slices_Compact_int_empty laysNm220 a cap w
def laysNm225_ren:Go.Shelf.Ren:=⟨fun | 25=>141 | 31=>211 | 32=>212 | 37=>272 | n=>n,fun | 22=>40 | 3=>3 | 4=>4 | 40=>159 | 0=>0 | n=>n,fun | n=>n⟩
theorem laysNm225:Go.Proofs.Lays2.n25 Tryz.prog laysNm225_ren:={
  mixed:=by kernel_rfl
  f25:=Tryz.func141.trans (congrArg some (by kernel_rfl))
  f31:=Tryz.func211.trans (congrArg some (by kernel_rfl))
  f32:=Tryz.func212.trans (congrArg some (by kernel_rfl))
  f37:=Tryz.func272.trans (congrArg some (by kernel_rfl))
  t0:=Tryz.underlying0
  a0:=Tryz.isAgg0
  z0:=Tryz.sizeOf0
  v0:=Tryz.zeroValue0
  t3:=Tryz.underlying3
  a3:=Tryz.isAgg3
  z3:=Tryz.sizeOf3
  v3:=Tryz.zeroValue3
  t4:=Tryz.underlying4
  a4:=Tryz.isAgg4
  z4:=Tryz.sizeOf4
  v4:=Tryz.zeroValue4
  t22:=Tryz.underlying40
  a22:=Tryz.isAgg40
  z22:=Tryz.sizeOf40
  v22:=Tryz.zeroValue40
  t40:=Tryz.underlying159
  a40:=Tryz.isAgg159
  z40:=Tryz.sizeOf159
  v40:=Tryz.zeroValue159 }
open Go.RowKit Go.Lib in
theorem slices_BinarySearch_int (b off n c:Nat) (zs:List Int) (x:Int) (w:World) (hz:n≤zs.length) (hbig:n < 4611686018427387904) (hc:∀ j,j < zs.length→w.cell? ⟨b,off+j,none⟩=some (.int .i64 (zs.getD j 0))) (hs:(zs.take n).Pairwise (·≤·)) :
    Calls Tryz.prog 141 #[.slice (some ⟨b,off,none⟩) n c,.int .i64 x] w fun e w'=>e=.returned (.tuple #[.int .i64 ((zs.take n).countP (· < x):Nat),.bool ((zs.take n).contains x)])∧∃ q,w'=w.drewN q:=Any.slices_BinarySearch_int laysNm225 b off n c zs x w hz hbig hc hs
open Go.RowKit Go.Sort in
theorem slices_Sort_int_none (p:Option Addr) (cap:Nat) (w:World) :
    Calls Tryz.prog 184 #[.slice p 0 cap] w fun e w'=>e=.returned (.tuple #[])∧w'=w:=Any.slices_Sort_int_none lays189 p cap w
open Go.RowKit Go.Lib in
theorem slices_BinarySearch_int_empty (a:Option Addr) (c:Nat) (x:Int) (w:World) :
    Calls Tryz.prog 141 #[.slice a 0 c,.int .i64 x] w fun e w'=>e=.returned (.tuple #[.int .i64 0,.bool false])∧w'=w:=Any.slices_BinarySearch_int_empty laysNm225 a c x w
end Go.Proofs.YtkelafkbmnjpeaaGreat
set_option maxHeartbeats 1000000
set_option maxRecDepth 100000
namespace Go.Proofs.YtkelafkbmnjpeaaGreat
open Go.Lib (hid)
open Go.RowKit Go.Maps Go.WideMaps
theorem Zdr (n:Nm) (w:World) (hn:n.length≤1000000):Calls Tryz.prog 259 #[.string ⟨n.toArray⟩] w fun e w'=>e=.returned (.string ⟨n.toArray⟩)∧Grows w w':=by
 have HC:=hid (stringslite_Clone ⟨n.toArray⟩ w (by rw [show (⟨n.toArray⟩:ByteArray).size=n.length by simp [ByteArray.size]];omega))
 clear hn
 go_enter Tryz.func259,Tryz.ntmps259
 go_wp2_with (fail)
 refine HC.out.mono ?_
 rintro e w' ⟨rfl,hb⟩
 have HB:=hid hb
 clear hb
 go_wp2_with (fail)
 go_ret
 exact ⟨rfl,HB.out⟩
theorem Ztw (n:Nm) (f:Nat) (w:World) (hn:n.length≤1000000):Calls Tryz.prog 189 #[.string ⟨n.toArray⟩,.pointer (some ⟨f,0,none⟩)] w fun e w' =>
 ∃ a b,e=.returned (.func (.func 260) #[] #[ptrV b,ptrV a])∧Whole w' a 9 #[strB n]∧Whole w' b 105 #[ptrV f]∧w.heap.size≤a∧w.heap.size≤b∧Grows w w':=by
 have HC:=hid (fun w=>Zdr n w hn)
 clear hn
 go_enter Tryz.func189,Tryz.ntmps189
 have e0:∀ w',Grows ((w.alloc (.cells #[.string ⟨n.toArray⟩] 9)).alloc (.cells #[.pointer (some ⟨f,0,none⟩)] 105)) w'→Whole w' w.heap.size 9 #[strB n]∧Whole w' (w.heap.size+1) 105 #[ptrV f]:=fun w' hg=>by
  refine ⟨hg.whole ((Whole.made w _ _).alloc _),hg.whole ?_⟩
  have:=Whole.made (w.alloc (.cells #[.string ⟨n.toArray⟩] 9)) 105 #[ptrV f]
  rwa [World.size_alloc] at this
 have HE:=hid e0
 clear e0
 go_wp2_with (fail)
 refine (HC.out _).mono ?_
 rintro e w' ⟨rfl,hb⟩
 have HB:=hid hb
 have f0:=(HE.out _ hb).1.free 0
 have c0:w'.cell? ⟨w.heap.size,0,none⟩=some (.string ⟨n.toArray⟩):=(HE.out _ hb).1.cell 0
 clear hb
 go_wp2_with (fail)
 go_ret
 refine ⟨_,_,rfl,(HE.out _ HB.out).1.put 0 _,(HE.out _ HB.out).2.elsewhere (by simp) _,Nat.le_refl _,Nat.le_succ _,?_⟩
 have g1:Grows w ((w.alloc (.cells #[.string ⟨n.toArray⟩] 9)).alloc (.cells #[.pointer (some ⟨f,0,none⟩)] 105)):=(Za w _).trans (Za _ _)
 exact (g1.trans HB.out).setCell (p:=⟨w.heap.size,0,none⟩) (Nat.le_refl _) _
theorem Zqh (n:Nm) (w:World) (hn:n.length≤1000000):Calls Tryz.prog 194 #[.string ⟨n.toArray⟩] w fun e w' =>
 ∃ a,e=.returned (.func (.func 261) #[] #[ptrV a])∧Whole w' a 9 #[strB n]∧w.heap.size≤a∧Grows w w':=by
 have HC:=hid (fun w=>Zdr n w hn)
 clear hn
 go_enter Tryz.func194,Tryz.ntmps194
 have e0:∀ w',Grows (w.alloc (.cells #[.string ⟨n.toArray⟩] 9)) w'→Whole w' w.heap.size 9 #[strB n]:=fun w' hg=>hg.whole (Whole.made w _ _)
 have HE:=hid e0
 clear e0
 go_wp2_with (fail)
 refine (HC.out _).mono ?_
 rintro e w' ⟨rfl,hb⟩
 have HB:=hid hb
 have f0:=(HE.out _ hb).free 0
 have c0:w'.cell? ⟨w.heap.size,0,none⟩=some (.string ⟨n.toArray⟩):=(HE.out _ hb).cell 0
 clear hb
 go_wp2_with (fail)
 go_ret
 exact ⟨_,rfl,(HE.out _ HB.out).put 0 _,Nat.le_refl _,((Za w _).trans HB.out).setCell (p:=⟨w.heap.size,0,none⟩) (Nat.le_refl _) _⟩
theorem Zqi (n to:Nm) (w:World) (hn:n.length≤1000000) (ht:to.length≤1000000):Calls Tryz.prog 265 #[.string ⟨n.toArray⟩,.string ⟨to.toArray⟩] w fun e w' =>
 ∃ a b,e=.returned (.func (.func 304) #[] #[ptrV a,ptrV b])∧Whole w' a 9 #[strB n]∧Whole w' b 9 #[strB to]∧w.heap.size≤a∧w.heap.size≤b∧Grows w w':=by
 have HC:=hid (fun w=>Zdr n w hn)
 have HC2:=hid (fun w=>Zdr to w ht)
 clear hn ht
 go_enter Tryz.func265,Tryz.ntmps265
 have e0:∀ w',Grows ((w.alloc (.cells #[.string ⟨n.toArray⟩] 9)).alloc (.cells #[.string ⟨to.toArray⟩] 9)) w'→Whole w' w.heap.size 9 #[strB n]∧Whole w' (w.heap.size+1) 9 #[strB to]:=fun w' hg=>by
  refine ⟨hg.whole ((Whole.made w _ _).alloc _),hg.whole ?_⟩
  have:=Whole.made (w.alloc (.cells #[.string ⟨n.toArray⟩] 9)) 9 #[strB to]
  rwa [World.size_alloc] at this
 have HE:=hid e0
 clear e0
 go_wp2_with (fail)
 refine Ze (E:=Grows) 4 [Zb (.string ⟨n.toArray⟩),Zb (.string ⟨n.toArray⟩),Zb (.string ⟨to.toArray⟩),Zb (.string ⟨to.toArray⟩)] mixed (by kernel_rfl) (fun _ _ _=>Grows.trans) (Zf _) ?_
 simp only [List.take_succ_cons,List.take_zero,List.drop_succ_cons,List.drop_zero]
 refine f_val _ (by rfl) ?_ ?_
 ·intro w' hC;have c0:w'.cell? ⟨w.heap.size,0,none⟩=some (.string ⟨n.toArray⟩):=(HE.out _ hC).1.cell 0;clear hC;go_simp
 simp only [Pu]
 refine Z7 259 #[.string ⟨n.toArray⟩] (.string ⟨n.toArray⟩) (by rfl) (by intro w' hC;clear hC;go_simp) ?_ ?_
 ·exact fun w' _ _=>HC.out w'
 simp only [Pu]
 refine f_val _ (by rfl) ?_ ?_
 ·intro w' hC;have c0:w'.cell? ⟨w.heap.size+1,0,none⟩=some (.string ⟨to.toArray⟩):=(HE.out _ hC).2.cell 0;clear hC;go_simp
 simp only [Pu]
 refine Z7 259 #[.string ⟨to.toArray⟩] (.string ⟨to.toArray⟩) (by rfl) (by intro w' hC;clear hC;go_simp) ?_ ?_
 ·exact fun w' _ _=>HC2.out w'
 simp only [Pu]
 refine Zu ?_
 intro w2 hC hks
 have HCw2:=hid hC
 clear hC hks
 have f0:=(HE.out _ HCw2.out).1.free 0
 have f1:=(HE.out _ HCw2.out).2.free 0
 have c0:w2.cell? ⟨w.heap.size,0,none⟩=some (.string ⟨n.toArray⟩):=(HE.out _ HCw2.out).1.cell 0
 have c1:w2.cell? ⟨w.heap.size+1,0,none⟩=some (.string ⟨to.toArray⟩):=(HE.out _ HCw2.out).2.cell 0
 go_wp2_with (fail)
 go_ret
 have g1:Grows w ((w.alloc (.cells #[.string ⟨n.toArray⟩] 9)).alloc (.cells #[.string ⟨to.toArray⟩] 9)):=(Za w _).trans (Za _ _)
 refine ⟨_,_,rfl,((HE.out _ HCw2.out).1.put 0 _).elsewhere (by simp) _,((HE.out _ HCw2.out).2.elsewhere (by simp) _).put 0 _,Nat.le_refl _,Nat.le_succ _,?_⟩
 exact ((g1.trans HCw2.out).setCell (p:=⟨w.heap.size,0,none⟩) (Nat.le_refl _) _).setCell (p:=⟨w.heap.size+1,0,none⟩) (Nat.le_succ _) _
end Go.Proofs.YtkelafkbmnjpeaaGreat
