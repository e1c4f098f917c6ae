/-
  Texts that the statements lean on, one behind the other.
-/
import Derived.Test.YtkelafkbmnjpeaaGreatMG04
import Derived.Test.YtkelafkbmnjpeaaGreatMG03
import Derived.Test.YtkelafkbmnjpeaaGreatMG00
set_option linter.unusedSimpArgs false
set_option linter.unusedVariables false
namespace Go.Proofs.YtkelafkbmnjpeaaGreat
open Go.RowKit
structure Job (G E:World→World→Prop) where
 α:Type
 x0:α
 val:α→Value
 R:α→World→Prop
 stays:∀ x w w',R x w→E w w'→R x w'
 rd:Bool
 wr:Bool
 C:α→World→Prop
 closed:∀ x w w',C x w→G w w'→C x w'
section
variable {P:Program} {ops:Array Oper} {md:Region.Mode} {G E:World→World→Prop} {W:World} {m:Nat}
def Job.cls (J:Job G E) (C:World→Prop) (x:J.α):World→Prop:=if J.wr then J.C x else C
theorem Job.cls_on {J:Job G E} (h:J.wr=true) (C:World→Prop) (x:J.α):J.cls C x=J.C x:=by unfold Job.cls;rw [if_pos h]
theorem Job.cls_off {J:Job G E} (h:J.wr=false) (C:World→Prop) (x:J.α):J.cls C x=C:=by unfold Job.cls;rw [if_neg (by simp [h])]
def clash (r1 w1 r2 w2:Bool):Bool:=(w1&&(r2 || w2)) || (w2&&r1)
theorem Zm9 {r1 w1 r2 w2:Bool} (h:clash r1 w1 r2 w2=false) (hu:(r2 || w2)=true):w1=false:=by
 cases r1 <;> cases w1 <;> cases r2 <;> cases w2 <;> simp_all [clash]
theorem Zex {r1 w1 r2 w2:Bool} (h:clash r1 w1 r2 w2=false) (hu:(r1 || w1)=true):w2=false:=by
 cases r1 <;> cases w1 <;> cases r2 <;> cases w2 <;> simp_all [clash]
theorem Job.cls_comm {J K:Job G E} (h:clash J.rd J.wr K.rd K.wr=false) (C:World→Prop) (x:J.α) (y:K.α):K.cls (J.cls C x) y=J.cls (K.cls C y) x:=by
 cases hj:J.wr
 ·rw [Job.cls_off hj,Job.cls_off hj]
 ·have hk:K.wr=false:=Zex h (by simp [hj])
  rw [Job.cls_off hk,Job.cls_off hk]
def Job.left (J:Job G E) (x:J.α) (w w':World):Prop:=J.R x w'∧(J.wr=true→E w w'∧J.C x w')∧(J.wr=false→G w w')
def Zgp (P:Program) (J:Job G E) (w:World):Result Next→Prop
 | .ok (.value u) w'=>∃ x,u=J.val x∧J.left x w w'
 | .ok .skip w'=>∃ x,undef=J.val x∧J.left x w w'
 | .ok (.enter f args) w'=>Calls P f args w' fun e w''=>∃ x,e=.returned (J.val x)∧J.left x w w''
 | _=>False
def jStep (P:Program) (ops:Array Oper) (W:World) (J:Job G E) (o:Oper) (K:Known→(World→Prop)→Act→Prop) (ks:Known) (C:World→Prop) (a:Act):Prop :=
 if Region.wanted o (yielded ops a.tmps) then (∀ w,E W w→ks.for (o.looksAt ops) w→((J.rd || J.wr)=true→C w)→Zgp P J w ((execOp a.eval o).run P w))∧∀ x,K ((o.dst,J.R x) :: ks) (J.cls C x) (a.put o.dst (J.val x)) else K ks C (a.put o.dst undef)
def jOp (P:Program) (ops:Array Oper) (W:World) (Js:Nat→Job G E) (i:Nat) (K:Known→(World→Prop)→Act→Prop) (ks:Known) (C:World→Prop) (a:Act):Prop :=
 match ops[i]? with
 | none=>K ks C a
 | some o=>jStep P ops W (Js i) o K ks C a
theorem Zna {J:Job G E} {o:Oper} {K K':Known→(World→Prop)→Act→Prop} {ks:Known} {C:World→Prop} {a:Act} (h:∀ ks C a,K ks C a→K' ks C a) (hh:jStep P ops W J o K ks C a):jStep P ops W J o K' ks C a:=by
 unfold jStep at *
 split
 ·rename_i hw;simp only [hw,if_true] at hh;exact ⟨hh.1,fun x=>h _ _ _ (hh.2 x)⟩
 ·rename_i hw;simp only [hw] at hh;exact h _ _ _ hh
def wpJ (P:Program) (ops:Array Oper) (W:World) (Q:Act→World→Prop):List Oper→List (Job G E)→Known→(World→Prop)→Act→Prop
 | [],_,ks,C,a=>∀ w,E W w→ks.all w→C w→Q a w
 | _ :: _,[],_,_,_=>False
 | o :: rest,J :: Js,ks,C,a=>jStep P ops W J o (wpJ P ops W Q rest Js) ks C a
def Jl (P:Program) (md:Region.Mode) (ops:Array Oper) (W:World) (n g:Nat) (Js:Nat→Job G E) (Z:Act→World→Prop):Nat→Array Bool→Known→(World→Prop)→Act→Prop
 | 0,listed,ks,C,a=>Region.seqB md ops g n listed=true∧∀ w,E W w→ks.all w→C w→Z a w
 | f+1,listed,ks,C,a=>Region.ready md ops listed≠[]∧∀ i∈Region.ready md ops listed,i < n∧jOp P ops W Js i (Jl P md ops W n g Js Z f (listed.setIfInBounds i true)) ks C a
theorem Zac {n g:Nat} {Js:Nat→Job G E} {Z:Act→World→Prop}:∀ (f:Nat) (listed:Array Bool) (ks ks':Known) (C:World→Prop) (a:Act),(∀ k∈ks,k∈ks')→Jl P md ops W n g Js Z f listed ks C a→Jl P md ops W n g Js Z f listed ks' C a
 | 0,listed,ks,ks',C,a,hk,h=>⟨h.1,fun w hw ha=>h.2 w hw fun k hk'=>ha k (hk k hk')⟩
 | f+1,listed,ks,ks',C,a,hk,h=>by
   refine ⟨h.1,fun i hi=>⟨(h.2 i hi).1,?_⟩⟩
   have h1:=(h.2 i hi).2
   unfold jOp at *
   split
   ·rename_i ho;simp only [ho] at h1;exact Zac f _ ks ks' C a hk h1
   ·rename_i o ho
    simp only [ho] at h1
    unfold jStep at *
    split
    ·rename_i hw
     simp only [hw,if_true] at h1
     refine ⟨fun w hw' hf=>h1.1 w hw' fun k hk'=>hf k (hk k hk'),fun x=>Zac f _ _ _ _ _ (fun k hk'=>?_) (h1.2 x)⟩
     rcases List.mem_cons.1 hk' with rfl | hk'
     ·exact List.mem_cons_self
     ·exact List.mem_cons_of_mem _ (hk k hk')
    ·rename_i hw
     simp only [hw] at h1
     exact Zac f _ ks ks' C _ hk h1
def Zey (md:Region.Mode) (ops:Array Oper):Nat→Nat→Nat→Bool
 | 0,_,_=>false
 | f+1,j,i=>Region.waitsFor md ops j i || (List.range j).any fun k=>Region.waitsFor md ops j k&&Zey md ops f k i
def Zez (md:Region.Mode) (ops:Array Oper) (j i:Nat):Bool:=Zey md ops j j i
theorem Zjd {n:Nat} {listed:Array Bool} (inv:HeadInv md ops n listed):∀ (j i:Nat),Zez md ops j i=true→j∈Region.ready md ops listed→listed.getD i false=true:=by
 have hl:∀ (f j i:Nat),Zey md ops f j i=true→listed.getD j false=true→listed.getD i false=true:=by
  intro f
  induction f with
  | zero=>intro j i h;simp [Zey] at h
  | succ f ih =>
    intro j i h hj
    rw [Zey,Bool.or_eq_true] at h
    rcases h with h | h
    ·obtain ⟨oj,hoj,e,he,hb,hon⟩:=Region.waitsFor_spec h
     have:=inv.closed _ oj hoj hj e he hb
     rwa [hon] at this
    ·obtain ⟨k,_,hk⟩:=List.any_eq_true.1 h
     rw [Bool.and_eq_true] at hk
     obtain ⟨oj,hoj,e,he,hb,hon⟩:=Region.waitsFor_spec hk.1
     have:=inv.closed _ oj hoj hj e he hb
     rw [hon] at this
     exact ih k i hk.2 this
 intro j i h hj
 obtain ⟨_,oj,hoj,hall⟩:=mem_ready.1 hj
 unfold Zez at h
 cases j with
 | zero=>simp [Zey] at h
 | succ j =>
   rw [Zey,Bool.or_eq_true] at h
   rcases h with h | h
   ·obtain ⟨oj',hoj',e,he,hb,hon⟩:=Region.waitsFor_spec h
    rw [hoj] at hoj'
    injection hoj' with e'
    subst e'
    have:=hall e he hb
    rwa [hon] at this
   ·obtain ⟨k,_,hk⟩:=List.any_eq_true.1 h
    rw [Bool.and_eq_true] at hk
    obtain ⟨oj',hoj',e,he,hb,hon⟩:=Region.waitsFor_spec hk.1
    rw [hoj] at hoj'
    injection hoj' with e'
    subst e'
    have:=hall e he hb
    rw [hon] at this
    exact hl _ _ _ hk.2 this
theorem Zhv {n g:Nat} {Js:Nat→Job G E} {Z:Act→World→Prop} {i:Nat} {oi:Oper} (hi:ops[i]?=some oi) (hsel:∀ (j:Nat) (o:Oper) cs b,ops[j]?=some o→o.op≠.select cs b)
 (hs:Region.sinkB md ops n=true) (hc:Region.chainB md ops n=true) (hn:n < ops.size) (hin:i < n) :
 ∀ (fuel:Nat) (listed:Array Bool) (ks:Known) (C:World→Prop) (a:Act),HeadInv md ops n listed →
  (∀ j oj,ops[j]?=some oj→j≠i→listed.getD j true=false→(∀ e∈oj.after,Region.binds md e=true→e.on≠i)→oi.apart ops oj=true) →
  (∀ j,j < n→j≠i→listed.getD j true=false→clash (Js i).rd (Js i).wr (Js j).rd (Js j).wr=true→Zez md ops j i=true) →
  i∈Region.ready md ops listed→jStep P ops W (Js i) oi (Jl P md ops W n g Js Z fuel (listed.setIfInBounds i true)) ks C a→Jl P md ops W n g Js Z (fuel+1) listed ks C a:=by
 intro fuel
 induction fuel with
 | zero =>
   intro listed ks C a inv _ _ hr H
   have hun:=(mem_ready.1 hr).1
   refine ⟨fun h=>(by rw [h] at hr;cases hr),fun j hj=>?_⟩
   have hjn:j < n:=by
    rcases Nat.lt_or_ge j n with h | h
    ·exact h
    ·exact absurd hj (tail_waits hs hc hn inv _ i rfl hin hun j h)
   refine ⟨hjn,?_⟩
   by_cases hji:j=i
   ·subst hji;unfold jOp;simp only [hi];exact H
   ·have hseq:Region.seqB md ops g n (listed.setIfInBounds i true)=true:=by
     unfold jStep at H
     split at H
     ·exact (H.2 (Js i).x0).1
     ·exact H.1
    have:=seqB_ready hseq j (ready_mono hj hji)
    omega
 | succ fuel ih =>
   intro listed ks C a inv hfree huse hr H
   have hun:=(mem_ready.1 hr).1
   refine ⟨fun h=>(by rw [h] at hr;cases hr),fun j hj=>?_⟩
   have hjn:j < n:=by
    rcases Nat.lt_or_ge j n with h | h
    ·exact h
    ·exact absurd hj (tail_waits hs hc hn inv _ i rfl hin hun j h)
   refine ⟨hjn,?_⟩
   by_cases hji:j=i
   ·subst hji;unfold jOp;simp only [hi];exact H
   ·have hjr:=ready_mono hj hji
    obtain ⟨hjun,oj,hoj,hall⟩:=mem_ready.1 hj
    have hnot:∀ e∈oj.after,Region.binds md e=true→e.on≠i:=fun e he hb heq=>by
     have h1:=hall e he hb
     rw [heq,getD_both hun] at h1
     cases h1
    have hap:=hfree j oj hoj hji hjun hnot
    have hus:clash (Js i).rd (Js i).wr (Js j).rd (Js j).wr=false:=by
     cases hcl:clash (Js i).rd (Js i).wr (Js j).rd (Js j).wr
     ·rfl
     ·have:=Zjd inv _ _ (huse j hjn hji hjun hcl) hj
      rw [getD_both hun] at this
      cases this
    obtain ⟨p1,p2,p3⟩:=Oper.apart_spec hap
    have hsi:=fun cs b=>hsel i oi cs b hi
    have hsj:=fun cs b=>hsel j oj cs b hoj
    have hback:∀ k,k≠i→(listed.setIfInBounds j true).getD k true=false→listed.getD k true=false:=fun k hki hun'=>by
     by_cases hjk:j=k
     ·subst hjk;exact hjun
     ·rw [getD_set_ne true hjk] at hun';exact hun'
    have hfree':∀ k ok,ops[k]?=some ok→k≠i→(listed.setIfInBounds j true).getD k true=false →
     (∀ e∈ok.after,Region.binds md e=true→e.on≠i)→oi.apart ops ok=true:=fun k ok hk hki hun' hno=>hfree k ok hk hki (hback k hki hun') hno
    have huse':∀ k,k < n→k≠i→(listed.setIfInBounds j true).getD k true=false→clash (Js i).rd (Js i).wr (Js k).rd (Js k).wr=true→Zez md ops k i=true:=fun k hkn hki hun'=>huse k hkn hki (hback k hki hun')
    have hri:=ready_mono hr (Ne.symm hji)
    have inv':=inv.set hj hjn
    unfold jOp
    simp only [hoj]
    by_cases hwi:Region.wanted oi (yielded ops a.tmps)=true
    ·unfold jStep at H
     simp only [hwi,if_true] at H
     obtain ⟨hgi,hK⟩:=H
     have hJ:∀ x,jStep P ops W (Js j) oj (Jl P md ops W n g Js Z fuel ((listed.setIfInBounds i true).setIfInBounds j true)) ((oi.dst,(Js i).R x) :: ks) ((Js i).cls C x) (a.put oi.dst ((Js i).val x)):=fun x=>by
      have:=((hK x).2 j hjr).2
      unfold jOp at this
      simp only [hoj] at this
      exact this
     unfold jStep
     by_cases hwj:Region.wanted oj (yielded ops a.tmps)=true
     ·simp only [hwj,if_true]
      have hJ':∀ x,(∀ w,E W w→Known.for ((oi.dst,(Js i).R x) :: ks) (oj.looksAt ops) w→(((Js j).rd || (Js j).wr)=true→(Js i).cls C x w)→Zgp P (Js j) w ((execOp (a.put oi.dst ((Js i).val x)).eval oj).run P w)) ∧
       ∀ y,Jl P md ops W n g Js Z fuel ((listed.setIfInBounds i true).setIfInBounds j true) ((oj.dst,(Js j).R y) :: (oi.dst,(Js i).R x) :: ks) ((Js j).cls ((Js i).cls C x) y) ((a.put oi.dst ((Js i).val x)).put oj.dst ((Js j).val y)):=fun x=>by
       have:=hJ x
       unfold jStep at this
       rw [wanted_put oj a oi.dst _ p1] at this
       simp only [hwj,if_true] at this
       exact this
      refine ⟨fun w hw hf hC=>?_,fun y=>ih _ _ _ _ inv' hfree' huse' hri ?_⟩
      ·have:=(hJ' (Js i).x0).1 w hw (Zcm p1 hf) (fun hu=>by
        have:(Js i).wr=false:=Zm9 hus hu
        rw [Job.cls_off this]
        exact hC hu)
       rwa [execOp_put oj hsj a oi.dst _ p1] at this
      ·unfold jStep
       rw [wanted_put oi a oj.dst _ p3]
       simp only [hwi,if_true]
       refine ⟨fun w hw hf hC=>?_,fun x=>?_⟩
       ·have:=hgi w hw (Zdm hf) (fun hu=>by
         have h0:(Js j).wr=false:=Zex hus hu
         have:=hC hu
         rwa [Job.cls_off h0] at this)
        rwa [execOp_put oi hsi a oj.dst _ p3]
       ·have:=(hJ' x).2 y
        rw [Array.setIfInBounds_comm _ _ hji,←Act.put_comm a _ _ p2,←Job.cls_comm hus]
        exact Zac _ _ _ _ _ _ (Zdn _ _ _) this
     ·simp only [hwj]
      have hJ':∀ x,Jl P md ops W n g Js Z fuel ((listed.setIfInBounds i true).setIfInBounds j true) ((oi.dst,(Js i).R x) :: ks) ((Js i).cls C x) ((a.put oi.dst ((Js i).val x)).put oj.dst undef):=fun x=>by
       have:=hJ x
       unfold jStep at this
       rw [wanted_put oj a oi.dst _ p1] at this
       simp only [hwj] at this
       exact this
      refine ih _ _ _ _ inv' hfree' huse' hri ?_
      unfold jStep
      rw [wanted_put oi a oj.dst _ p3]
      simp only [hwi,if_true]
      refine ⟨fun w hw hf hC=>?_,fun x=>?_⟩
      ·have:=hgi w hw hf hC
       rwa [execOp_put oi hsi a oj.dst _ p3]
      ·rw [Array.setIfInBounds_comm _ _ hji,←Act.put_comm a _ _ p2]
       exact hJ' x
    ·unfold jStep at H
     simp only [hwi] at H
     have hJ:jStep P ops W (Js j) oj (Jl P md ops W n g Js Z fuel ((listed.setIfInBounds i true).setIfInBounds j true)) ks C (a.put oi.dst undef):=by
      have:=(H.2 j hjr).2
      unfold jOp at this
      simp only [hoj] at this
      exact this
     unfold jStep at *
     rw [wanted_put oj a oi.dst _ p1] at hJ
     by_cases hwj:Region.wanted oj (yielded ops a.tmps)=true
     ·simp only [hwj,if_true] at *
      refine ⟨fun w hw hf hC=>?_,fun y=>ih _ _ _ _ inv' hfree' huse' hri ?_⟩
      ·have:=hJ.1 w hw hf hC
       rwa [execOp_put oj hsj a oi.dst _ p1] at this
      ·rw [wanted_put oi a oj.dst _ p3]
       simp only [hwi]
       have:=hJ.2 y
       rw [Array.setIfInBounds_comm _ _ hji,←Act.put_comm a _ _ p2]
       exact this
     ·simp only [hwj] at *
      refine ih _ _ _ _ inv' hfree' huse' hri ?_
      rw [wanted_put oi a oj.dst _ p3]
      simp only [hwi]
      rw [Array.setIfInBounds_comm _ _ hji,←Act.put_comm a _ _ p2]
      exact hJ
def usesB (md:Region.Mode) (ops:Array Oper) (us:List (Bool×Bool)):Bool :=
 (List.range us.length).all fun j=>(List.range j).all fun i=>!(clash (us.getD i (false,false)).1 (us.getD i (false,false)).2 (us.getD j (false,false)).1 (us.getD j (false,false)).2) || Zez md ops j i
theorem Zgq {us:List (Bool×Bool)} (h:usesB md ops us=true) {i j:Nat} (hij:i < j) (hc:clash (us.getD i (false,false)).1 (us.getD i (false,false)).2 (us.getD j (false,false)).1 (us.getD j (false,false)).2=true):Zez md ops j i=true:=by
 have jl:j < us.length:=by
  rcases Nat.lt_or_ge j us.length with h | h
  ·exact h
  ·have:us.getD j (false,false)=(false,false):=by rw [List.getD_eq_getElem?_getD,List.getElem?_eq_none h];rfl
   rw [this] at hc
   simp [clash] at hc
 have h1:=List.all_eq_true.1 h j (List.mem_range.2 jl)
 have h2:=List.all_eq_true.1 h1 i (List.mem_range.2 hij)
 rw [hc] at h2
 simpa using h2
theorem Zcn {n g:Nat} {Js:Nat→Job G E} {Z:Act→World→Prop} (hsel:Region.noSelect ops=true) (hs:Region.sinkB md ops n=true) (hc:Region.chainB md ops n=true) (hn:n < ops.size)
 (hu:∀ i j,i < j→clash (Js i).rd (Js i).wr (Js j).rd (Js j).wr=true→Zez md ops j i=true) :
 ∀ (l:List Oper) (k:Nat) (js:List (Job G E)) (listed:Array Bool) (ks:Known) (C:World→Prop) (a:Act),(∀ j,j < l.length→l[j]?=ops[k+j]?)→(∀ j J,js[j]?=some J→Js (k+j)=J)→k+l.length=n→HeadInv md ops n listed →
  (∀ j,j < k→listed.getD j true=true)→Region.lexHead md ops g l.length k listed=true→wpJ P ops W Z l js ks C a→Jl P md ops W n g Js Z l.length listed ks C a
 | [],k,js,listed,ks,C,a,_,_,hk,_,_,hB,h=>by
   have:k=n:=by simpa using hk
   subst this
   refine ⟨by simpa [Region.lexHead] using hB,?_⟩
   unfold wpJ at h
   exact h
 | o :: l,k,[],listed,ks,C,a,hl,hF,hk,inv,hlo,hB,h=>h.elim
 | o :: l,k,J :: js,listed,ks,C,a,hl,hF,hk,inv,hlo,hB,h=>by
   have h0:ops[k]?=some o:=by simpa using (hl 0 (by simp)).symm
   have hF0:Js k=J:=by simpa using hF 0 J rfl
   simp only [List.length_cons,Region.lexHead,Bool.and_eq_true] at hB
   obtain ⟨⟨hr,hf⟩,hB'⟩:=hB
   have hkn:k < n:=by simp only [List.length_cons] at hk;omega
   have hr':k∈Region.ready md ops listed:=by simpa using hr
   refine Zhv h0 (Region.noSelect_spec hsel) hs hc hn hkn l.length listed ks C a inv (Region.free_spec h0 hf) (fun j hjn hjk hunl hcl=>?_) hr' ?_
   ·have hkj:k < j:=by
     rcases Nat.lt_or_ge j k with h | h
     ·rw [hlo j h] at hunl;cases hunl
     ·omega
    exact hu k j hkj hcl
   rw [hF0]
   refine Zna (fun ks C a h=>Zcn hsel hs hc hn hu l (k+1) js _ ks C a (fun j hj=>by have:=hl (j+1) (by simp;omega);simpa [Nat.add_assoc,Nat.add_comm 1 j] using this)
    (fun j F' hj=>by have:=hF (j+1) F' (by simpa using hj);simpa [Nat.add_assoc,Nat.add_comm 1 j] using this) (by simp only [List.length_cons] at hk;omega) (inv.set hr' hkn) (fun j hj=>?_) hB' h) h
   by_cases hjk:k=j
   ·subst hjk
    have hks:k < listed.size:=by rw [inv.size];omega
    simp [hks]
   ·rw [getD_set_ne true hjk]
    exact hlo j (by omega)
theorem Jc {n g:Nat} {Js:Nat→Job G E} {Z:Act→World→Prop} {Q':Exit→Act→World→Prop} (hGE:∀ a b,G a b→E a b) (ht:∀ a b c,E a b→E b c→E a c) (hZ:∀ listed a w,Region.seqB md ops g n listed=true→Z a w→wpAny P md ops Q' g listed a w) :
 ∀ (f:Nat) (listed:Array Bool) (ks:Known) (C:World→Prop) (a:Act) (w:World),E W w→ks.all w→C w→(∀ k∈ks,∀ w w',k.2 w→E w w'→k.2 w')→(∀ w w',C w→G w w'→C w')→Jl P md ops W n g Js Z f listed ks C a→wpAny P md ops Q' (f+g) listed a w
 | 0,listed,ks,C,a,w,hw,ha,hCw,_,_,h=>by rw [Nat.zero_add];exact hZ _ _ _ h.1 (h.2 w hw ha hCw)
 | f+1,listed,ks,C,a,w,hw,ha,hCw,hst,hcl,h=>by
   rw [show f+1+g=(f+g)+1 by omega]
   refine ⟨fun h0=>absurd h0 h.1,fun i hi=>?_⟩
   have h1:=(h.2 i hi).2
   unfold jOp at h1
   unfold wpOp
   split
   ·rename_i ho;simp only [ho] at h1;exact Jc hGE ht hZ f _ ks C a w hw ha hCw hst hcl h1
   ·rename_i o ho
    simp only [ho] at h1
    unfold jStep at h1
    split
    ·rename_i hwd
     simp only [hwd,if_true] at h1
     obtain ⟨hg,hK⟩:=h1
     have hg':=hg w hw (Known.all_for ha) (fun _=>hCw)
     have go:∀ x w',(Js i).left x w w'→wpAny P md ops Q' (f+g) (listed.setIfInBounds i true) (a.put o.dst ((Js i).val x)) w':=fun x w' hlf=>by
      obtain ⟨hR,h1,h2⟩:=hlf
      have he:E w w':=by
       cases hu:(Js i).wr
       ·exact hGE _ _ (h2 hu)
       ·exact (h1 hu).1
      refine Jc hGE ht hZ f _ _ _ _ w' (ht _ _ _ hw he) (fun k hk=>by
       rcases List.mem_cons.1 hk with rfl | hk
       ·exact hR
       ·exact hst k hk _ _ (ha k hk) he) ?_ (fun k hk=>by
       rcases List.mem_cons.1 hk with rfl | hk
       ·exact (Js i).stays x
       ·exact hst k hk) ?_ (hK x)
      ·cases hu:(Js i).wr
       ·rw [Job.cls_off hu];exact hcl _ _ hCw (h2 hu)
       ·rw [Job.cls_on hu];exact (h1 hu).2
      ·cases hu:(Js i).wr
       ·rw [Job.cls_off hu];exact hcl
       ·rw [Job.cls_on hu];exact (Js i).closed x
     left
     unfold Oper.wp
     generalize (execOp a.eval o).run P w=r at *
     cases r with
     | ok n w' =>
       cases n <;> simp only [Zgp] at hg' <;> simp only [Oper.upon]
       case value u=>obtain ⟨x,rfl,hR⟩:=hg';exact go x w' hR
       case skip=>obtain ⟨x,hx,hR⟩:=hg';rw [hx];exact go x w' hR
       case enter f args=>exact hg'.mono fun e w'' ⟨x,hx,hR⟩=>by subst hx;exact go x w'' hR
     | halt x w'=>simp only [Zgp] at hg'
    ·rename_i hwd
     simp only [hwd] at h1
     exact Jc hGE ht hZ f _ ks C _ w hw ha hCw hst hcl h1
def Job.none:Job G E:=⟨Unit,(),fun _=>undef,fun _ _=>True,fun _ _ _ _ _=>trivial,false,false,fun _ _=>True,fun _ _ _ _ _=>trivial⟩
theorem Zal {id:Nat} {Q:Exit→Act→World→Prop} {a:Act} {w:World} {l:List Oper} (n:Nat) (js:List (Job G E)) (us:List (Bool×Bool)) (C:World→Prop) (hus:us=js.map fun J=>(J.rd,J.wr)) (hm:P.follows .mixedOrders=true) (hB:(Region.lexTailB .any l.toArray n&&usesB .any l.toArray us)=true)
 (hGE:∀ a b,G a b→E a b) (ht:∀ a b c,E a b→E b c→E a c) (hd:E w { w with drawn:=w.drawn+1 }) (hC:C { w with drawn:=w.drawn+1 }) (hcl:∀ w w',C w→G w w'→C w')
 (h:wpJ (G:=G) (E:=E) P l.toArray w (fun a' w'=>wpList P l.toArray Q (l.drop n) a' w') (l.take n) js [] C a):(Code.region id l.toArray true).wp P Q a w:=by
 simp only [Region.lexTailB,Bool.and_eq_true,decide_eq_true_eq] at hB
 obtain ⟨⟨⟨⟨⟨hsel,hn⟩,hs⟩,hc⟩,hlex⟩,huB⟩:=hB
 have hn':n < l.length:=by simpa using hn
 have htl:(l.take n).length=n:=by simp;omega
 have hdl:(l.drop n).length=l.toArray.size - n:=by simp
 have inv0:HeadInv .any l.toArray n (Array.replicate l.toArray.size false) :=
  ⟨by simp,fun j oj _ hl=>(by rw [getD_replicate_false] at hl;cases hl),fun t _ ht=>getD_in (by simpa using ht) (getD_replicate_false _ _)⟩
 have hgd:∀ i,(((js[i]?).getD Job.none).rd,((js[i]?).getD Job.none).wr)=us.getD i (false,false):=fun i=>by
  subst hus
  rw [List.getD_eq_getElem?_getD,List.getElem?_map]
  cases js[i]? <;> rfl
 have H:=Zcn (P:=P) (md:=.any) (W:=w) (g:=l.toArray.size - n) (Js:=fun i=>(js[i]?).getD Job.none) (Z:=fun a' w'=>wpList P l.toArray Q (l.drop n) a' w') hsel hs hc hn
  (fun i j hij h1=>Zgq huB hij (by rw [←hgd,←hgd];exact h1)) (l.take n) 0 js _ [] C a (fun j hj=>by
  have hj':j < n:=by rw [htl] at hj;exact hj
  simp [hj']) (fun j F hj=>by simp only [Nat.zero_add,hj,Option.getD_some]) (by simpa using htl) inv0 (fun j hj=>absurd hj (Nat.not_lt_zero j)) (by rw [htl];exact hlex) h
 refine wp_region_any hm ?_
 have:=Jc (Q':=Q) hGE ht (fun listed a' w' hseq hL=>by
  have:=wpAny_of_seq (md:=.any) (Q':=Q) (l.drop n) n listed a' w' (fun j=>by simp [List.getElem?_drop]) (by rw [hdl];exact hseq) hL
  rwa [hdl] at this) _ _ _ _ _ { w with drawn:=w.drawn+1 } hd (fun k hk=>by cases hk) hC (fun k hk=>by cases hk) hcl H
 rw [htl,show n+(l.toArray.size - n)=l.toArray.size by omega] at this
 exact this
end
end Go.Proofs.YtkelafkbmnjpeaaGreat
namespace Go.Proofs.YtkelafkbmnjpeaaGreat
open Go.RowKit
section
variable {own:Nat→Prop}
def Zu (own:Nat→Prop) (v:Value):Job Grows (Zc own):=⟨Unit,(),fun _=>v,fun _ _=>True,fun _ _ _ _ _=>trivial,false,false,fun _ _=>True,fun _ _ _ _ _=>trivial⟩
def wrJob (own:Nat→Prop) (v:Value) (C:World→Prop) (hC:∀ w w',C w→Grows w w'→C w'):Job Grows (Zc own):=⟨Unit,(),fun _=>v,fun _ _=>True,fun _ _ _ _ _=>trivial,true,true,fun _=>C,fun _=>hC⟩
def Zo8 (own:Nat→Prop) (t:TypeId) (cs:Array Value) (n:Nat):Job Grows (Zc own) :=
 ⟨Nat,0,fun g=>.slice (some ⟨g,0,none⟩) n n,fun g w=>Whole w g t cs∧¬ own g,fun _ _ _ h g=>⟨(g.same _ h.1.lt h.2).trans h.1,h.2⟩,false,false,fun _ _=>True,fun _ _ _ _ _=>trivial⟩
def Zl5 (own:Nat→Prop) (base:Nat) (e:TypeId) (v0:Value) (B k:Nat) (xs:List Value):Job Grows (Zc own) :=
 ⟨Option Addr×Nat,(none,0),fun p=>.slice p.1 k p.2,fun _ _=>True,fun _ _ _ _ _=>trivial,true,true,
  fun p w=>w.ownsRow base e 1 (.slice p.1 k p.2) k xs∧((Value.slice p.1 k p.2).ownBlock=v0.ownBlock∨∃ g,(Value.slice p.1 k p.2).ownBlock=some g∧B≤g),fun _ _ _ h g=>⟨Zd h.1 g,h.2⟩⟩
variable {P:Program} {ops:Array Oper} {W:World} {Q:Act→World→Prop} {o:Oper} {rest:List Oper} {js:List (Job Grows (Zc own))} {ks:Known} {C:World→Prop} {a:Act}
theorem Zca {G E:World→World→Prop}:∀ (l:List Oper) (js:List (Job G E)) (ks ks':Known) (C:World→Prop) (a:Act),(∀ k∈ks,k∈ks')→wpJ P ops W Q l js ks C a→wpJ P ops W Q l js ks' C a
 | [],_,_,_,_,_,hk,h=>fun w hw ha=>h w hw fun k hk'=>ha k (hk k hk')
 | _ :: _,[],_,_,_,_,_,h=>h.elim
 | o :: l,J :: js,ks,ks',C,a,hk,h=>by
   unfold wpJ jStep at *
   split
   ·rename_i hw
    simp only [hw,if_true] at h
    refine ⟨fun w hw' hf=>h.1 w hw' fun k hk'=>hf k (hk k hk'),fun x=>Zca l js _ _ _ _ (fun k hk'=>?_) (h.2 x)⟩
    rcases List.mem_cons.1 hk' with rfl | hk'
    ·exact List.mem_cons_self
    ·exact List.mem_cons_of_mem _ (hk k hk')
   ·rename_i hw
    simp only [hw] at h
    exact Zca l js _ _ _ _ hk h
theorem Zuj (v:Value) (hw:Region.wanted o (yielded ops a.tmps)=true) (h1:∀ w,Zc own W w→ks.for (o.looksAt ops) w→(execOp a.eval o).run P w=.ok (.value v) w) (h2:wpJ P ops W Q rest js ks C (a.put o.dst v)) :
 wpJ P ops W Q (o :: rest) (Zu own v :: js) ks C a:=by
 unfold wpJ jStep
 rw [if_pos hw]
 refine ⟨fun w hW hk _=>?_,fun x=>Zca _ _ ks _ _ _ (fun k hk=>List.mem_cons_of_mem _ hk) h2⟩
 rw [h1 w hW hk]
 exact ⟨(),rfl,trivial,(fun h=>by cases h),fun _=>Grows.refl w⟩
theorem j_val (v:Value) (hw:Region.wanted o (yielded ops a.tmps)=true) (h1:∀ w,Zc own W w→(execOp a.eval o).run P w=.ok (.value v) w) (h2:wpJ P ops W Q rest js ks C (a.put o.dst v)) :
 wpJ P ops W Q (o :: rest) (Zu own v :: js) ks C a:=Zuj v hw (fun w hW _=>h1 w hW) h2
theorem Ztv (f:FuncId) (args:Array Value) (v:Value) (hw:Region.wanted o (yielded ops a.tmps)=true) (h1:∀ w,Zc own W w→(execOp a.eval o).run P w=.ok (.enter f args) w)
 (hc:∀ w,Zc own W w→ks.for (o.looksAt ops) w→Calls P f args w fun e w'=>e=.returned v∧Grows w w') (h2:wpJ P ops W Q rest js ks C (a.put o.dst v)) :
 wpJ P ops W Q (o :: rest) (Zu own v :: js) ks C a:=by
 unfold wpJ jStep
 rw [if_pos hw]
 refine ⟨fun w hW hk _=>?_,fun x=>Zca _ _ ks _ _ _ (fun k hk=>List.mem_cons_of_mem _ hk) h2⟩
 rw [h1 w hW]
 exact (hc w hW hk).mono fun e w' ⟨he,hg⟩=>⟨(),he,trivial,(fun h=>by cases h),fun _=>hg⟩
theorem Zo9 (f:FuncId) (args:Array Value) (v:Value) {C':World→Prop} {hC':∀ w w',C' w→Grows w w'→C' w'} (hw:Region.wanted o (yielded ops a.tmps)=true) (h1:∀ w,Zc own W w→(execOp a.eval o).run P w=.ok (.enter f args) w)
 (hc:∀ w,Zc own W w→C w→Calls P f args w fun e w'=>e=.returned v∧Zc own w w'∧C' w') (h2:wpJ P ops W Q rest js ks C' (a.put o.dst v)) :
 wpJ P ops W Q (o :: rest) (wrJob own v C' hC' :: js) ks C a:=by
 unfold wpJ jStep
 rw [if_pos hw]
 refine ⟨fun w hW _ hC=>?_,fun x=>Zca _ _ ks _ _ _ (fun k hk=>List.mem_cons_of_mem _ hk) h2⟩
 rw [h1 w hW]
 exact (hc w hW (hC rfl)).mono fun e w' ⟨he,hs,hc'⟩=>⟨(),he,trivial,fun _=>⟨hs,hc'⟩,fun h=>by cases h⟩
theorem Ztw (t:TypeId) (cs:Array Value) (n:Nat) (hown:∀ k,own k→k < W.heap.size) (hw:Region.wanted o (yielded ops a.tmps)=true) (h1:∀ w,Zc own W w→(execOp a.eval o).run P w=.ok (.value (.slice (some ⟨w.heap.size,0,none⟩) n n)) (w.alloc (.cells cs t)))
 (h2:∀ g,wpJ P ops W Q rest js ((o.dst,fun w=>Whole w g t cs∧¬ own g) :: ks) C (a.put o.dst (.slice (some ⟨g,0,none⟩) n n))) :
 wpJ P ops W Q (o :: rest) (Zo8 own t cs n :: js) ks C a:=by
 unfold wpJ jStep
 rw [if_pos hw]
 refine ⟨fun w hW hk _=>?_,fun g=>h2 g⟩
 rw [h1 w hW]
 exact ⟨w.heap.size,rfl,⟨Whole.made _ _ _,fun h=>by have:=hown _ h;have:=hW.size;omega⟩,(fun h=>by cases h),fun _=>Zb _ _⟩
theorem Zew (h:∀ w,Zc own W w→ks.all w→C w→Q a w):wpJ (G:=Grows) (E:=Zc own) P ops W Q [] js ks C a:=h
theorem Zhu (hw:Region.wanted o (yielded ops a.tmps)=true) (s x:Operand) (t:TypeId) (ho:o.op=.call { callee:=.builtin .append,args:=#[s,x],argTypes:=#[t,t] })
 {base B:Nat} {e:TypeId} {i:TypeInfo} {z:Value} {bytes:Nat} (ht:P.underlying t=some (.slice e)) (hi:P.info? e=some i) (hz:i.zero=some z) (hsize:i.size=1) (hby:i.bytes=bytes) (hzs:z.cells.size=1)
 {A0:Option Addr} {n c0:Nat} {xs:List Value} (hs:a.eval s=.slice A0 n c0) (v0:Value)
 (hcls:∀ w,C w→w.ownsRow base e 1 (.slice A0 n c0) n xs∧((Value.slice A0 n c0).ownBlock=v0.ownBlock∨∃ g,(Value.slice A0 n c0).ownBlock=some g∧B≤g)) (hB:B≤W.heap.size) (hown:∀ g,v0.ownBlock=some g→own g) (hown2:∀ w g,Zc own W w→(Value.slice A0 n c0).ownBlock=some g→g < W.heap.size→own g)
 {A:Option Addr} {m c:Nat} {news:List Value} (hx:a.eval x=.slice A m c) (hr:∀ w,Zc own W w→ks.for (o.looksAt ops) w→∃ Bx,Row w Bx A m news) (hbare:A=none→c=0) (h1:∀ u∈news,u.oneCell'=true)
 (k:Nat) (hk:n+m=k) (ys:List Value) (hys:xs++news=ys) (h63:k≤maxLen) (hbytes:k*bytes≤140737488355328) (hbase:base≤W.heap.size) (hnew:∀ w g,Zc own W w→C w→(Value.slice A0 n c0).ownBlock=some g→W.heap.size≤g→own g)
 (h:∀ A' c',wpJ P ops W Q rest js ks (fun w=>w.ownsRow base e 1 (.slice A' k c') k ys∧((Value.slice A' k c').ownBlock=v0.ownBlock∨∃ g,(Value.slice A' k c').ownBlock=some g∧B≤g)) (a.put o.dst (.slice A' k c'))) :
 wpJ P ops W Q (o :: rest) (Zl5 own base e v0 B k ys :: js) ks C a:=by
 subst hk hys
 unfold wpJ jStep
 rw [if_pos hw]
 refine ⟨fun w hW hkn hC=>?_,fun p=>Zca _ _ ks _ _ _ (fun k hk=>List.mem_cons_of_mem _ hk) (h p.1 p.2)⟩
 obtain ⟨hrow,hblk⟩:=hcls w (hC rfl)
 obtain ⟨Bx,hr'⟩:=hr w hW hkn
 obtain ⟨v',w',hrun,h2,h3,h4⟩:=Jb (P:=P) (ty:=o.type) ht hi hz hsize hby hzs hrow hr' hbare h1 h63 hbytes (Nat.le_trans hbase hW.size)
 obtain ⟨A',c',rfl,_⟩:=Zp h2
 have hex:(execOp a.eval o).run P w=.ok (.value (.slice A' (n+m) c')) w':=by
  unfold execOp
  simp only [ho,resolve,invoke,builtin,Sem.run_bind,Sem.run_pure,Result.andThen_ok,List.map_toArray,List.map_cons,List.map_nil,hs,hx,hrun]
 rw [hex]
 refine ⟨(A',c'),rfl,trivial,fun _=>⟨?_,h2,?_⟩,fun h=>by cases h⟩
 ·refine ⟨h3.os,h3.tape,h3.output,h3.size,fun q hq ho=>h3.block q hq fun e=>?_⟩
  rcases Nat.lt_or_ge q W.heap.size with hlt | hge
  ·exact ho (hown2 w q hW e.symm hlt)
  ·exact ho (hnew w q hW (hC rfl) e.symm hge)
 ·rcases h4 with h4 | h4
  ·exact h4 ▸ hblk
  ·exact .inr ⟨_,h4,Nat.le_trans hB hW.size⟩
end
theorem Jz (own:Nat→Prop) (w:World):Zc own w { w with drawn:=w.drawn+1 }:=⟨rfl,rfl,rfl,Nat.le_refl _,fun _ _ _=>rfl⟩
end Go.Proofs.YtkelafkbmnjpeaaGreat
set_option maxHeartbeats 4000000
set_option maxRecDepth 100000
namespace Go.Proofs.YtkelafkbmnjpeaaGreat
open Go.Lib (hid)
open Go.RowKit Go.Maps Go.WideMaps
attribute [local irreducible] Go.wpQuiet
theorem Sl.off {w w':World} {A:Option Addr} {n c:Nat} {bs:List UInt8} (h:Sl w A n c bs) (hz:w.heap.size≤w'.heap.size) (hA:∀ ad,A=some ad→bs≠[]→ad.block < w.heap.size→w'.heap[ad.block]?=w.heap[ad.block]?):Sl w' A n c bs:=by
 have hr:Row w w.heap.size A n (bs.map byteV):=h.bytes
 refine ⟨(show Row w' w'.heap.size A n (bs.map byteV) from ⟨hr.len,fun k v hv=>?_⟩),h.cap,h.bare⟩
 obtain ⟨ad,he,hb,hc⟩:=hr.spot k v hv
 refine ⟨ad,he,by omega,?_⟩
 rw [←hc]
 refine World.cell?_of_block ?_
 rw [show (ad.add k).block=ad.block by unfold Addr.add;split <;> rfl]
 exact hA ad he (fun e=>by rw [e] at hv;simp at hv) hb
section
variable {w:World} {d:Nat} {own:Nat→Prop} {G:Geo} {m:Dk}
theorem Zr1 (w:World) {b n c:Nat} {A:Option Addr} {x y:Int} (h:Whole w b 108 #[.int .i64 x,.slice A n c,.int .i64 y]) :
 Calls Tryz.prog 102 #[.pointer (some ⟨b,0,none⟩)] w fun e w'=>e=.returned (.tuple #[])∧w'=w.setCell ⟨b,2,none⟩ (.int .i64 (n:Int)):=by
 have c1:w.cell? ⟨b,1,none⟩=some (.slice A n c):=h.cell 1
 have c2:w.cell? ⟨b,2,none⟩=some (.int .i64 y):=h.cell 2
 have f2:=h.free 2
 clear h
 go_enter Tryz.func102,Tryz.ntmps102
 go_wp2
 go_end0
 exact ⟨rfl,rfl⟩
theorem DkAt.filed {w w':World} (h:DkAt w d own G m) {i:Nat} (hi:i < m.made) {v:Value} {f:Fl} (hc:Whole w' (G.loc i) 108 #[.int .i64 (i:Int),v,.int .i64 (f.kept:Int)])
 (hr:w'.ownsRow 0 5 1 v f.bytes.length (f.bytes.map byteV)) (hv:∀ k,v.ownBlock=some k→(G.row i).ownBlock=some k∨w.heap.size≤k)
 (hs:Zc (fun k=>k=G.loc i∨(G.row i).ownBlock=some k) w w'):DkTo w d own w' (m.setFile i f):=by
 have hold:∀ k,v.ownBlock=some k→k < w'.heap.size:=fun k hk=>(hr.lt k hk).2
 have h1:Z3 w' (fun k=>own k∨v.ownBlock=some k) { G with row:=fun j=>if j=i then v else G.row j } (m.setFile i f) :=
  h.rest.filed hi hc hr (fun k hk=>.inl hk) (fun k hk=>hk.elim (fun hk=>Nat.lt_of_lt_of_le (h.rest.lt k hk) hs.size) (hold k)) (fun k hk=>.inr hk)
   (fun k hk=>(hv k hk).imp id fun hge j hj e=>by have:=h.rest.lt k (h.rest.or j k hj e);omega)
   (fun k hk h1 h2=>hs.same k (h.rest.lt k hk) fun e=>e.elim h1 h2)
 have hd1:¬ (d=G.loc i∨(G.row i).ownBlock=some d):=by
  rintro (e | e)
  ·exact h.free (e ▸ h.rest.ol i hi)
  ·exact h.free (h.rest.or i d hi e)
 have hsz:=hs.size
 refine ⟨_,_,⟨h1,h.top.same (hs.same d h.top.lt hd1),?_⟩,hs.wider fun k _ hk=>.inr ?_,?_⟩
 ·rintro (e | e)
  ·exact h.free e
  ·rcases hv d e with e | e
   ·exact hd1 (.inr e)
   ·have:=h.top.lt;omega
 ·rcases hk with rfl | hk
  ·exact h.rest.ol i hi
  ·exact h.rest.or i k hi hk
 ·rintro k (hk | hk)
  ·exact .inl hk
  ·exact (hv k hk).imp (h.rest.or i k hi) id
theorem Zug (w:World) (h:DkAt w d own G m) {i:Nat} (hi:i < m.made):Calls Tryz.prog 102 #[.pointer (some ⟨G.loc i,0,none⟩)] w fun e w'=>e=.returned (.tuple #[])∧DkTo w d own w' (m.doSync i):=by
 obtain ⟨A,c,hA,_⟩:=Zp (h.rest.rows i hi)
 have hc:=h.rest.cells i hi
 rw [hA] at hc
 refine (Zr1 w hc).mono ?_
 rintro e w' ⟨rfl,hw⟩
 refine ⟨rfl,?_⟩
 have hne:G.loc i≠d:=fun e=>h.free (e ▸ h.rest.ol i hi)
 have hb:(G.row i).ownBlock≠some (G.loc i):=fun e=>by
  obtain ⟨cur,h1⟩:=Zx (h.rest.rows i hi) e
  unfold Whole at hc
  rw [hc] at h1
  injection h1 with h1
  injection h1 with _ h1 _
  cases h1
 have hs:Zc (fun k=>k=G.loc i∨(G.row i).ownBlock=some k) w w':=hw ▸ (Zc.refl _ w).setCell (p:=⟨G.loc i,2,none⟩) (.inl rfl) _
 have hr:w'.ownsRow 0 5 1 (G.row i) (m.files i).bytes.length ((m.files i).bytes.map byteV):=Yg (h.rest.rows i hi) fun k hk=>by
  rw [hw]
  exact Below.heap_setCell _ _ _ _ fun e=>hb (by have e:k=G.loc i:=e;exact e ▸ hk)
 refine h.filed hi (f:=⟨(m.files i).bytes,(m.files i).bytes.length⟩) ?_ hr (fun k hk=>.inl hk) hs
 rw [hw,hA]
 exact hc.put 2 _
theorem Zo1 (w:World) (h:DkAt w d own G m) {i:Nat} (hi:i < m.made) {a0 b0 d0:Nat} {A:Option Addr} {nb cb:Nat} {bs:List UInt8}
 (ha:Whole w a0 105 #[ptrV (G.loc i)]) (hb:Whole w b0 37 #[.slice A nb cb]) (hd:Whole w d0 24 #[ptrV d])
 (ho:∀ k,k=a0∨k=b0∨k=d0→k≠d∧¬ own k) (hs:Sl w A nb cb bs) (hoff:∀ ad,A=some ad→bs≠[]→ad.block≠d∧¬ own ad.block) (h1:(m.files i).bytes.length≤1000000000) (h2:nb≤1000000000) :
 Calls Tryz.prog 190 #[ptrV a0,ptrV b0,ptrV d0] w fun e w'=>e=.returned (.tuple #[])∧DkTo w d own w' (m.doAppend i bs):=by
 obtain ⟨A0,c0,hA0,_⟩:=Zp (h.rest.rows i hi)
 obtain ⟨i0,hi0,hz0,hz1,hz2⟩:=info_parts infoU8
 have HI:=hid (And.intro hi0 (And.intro hz0 (And.intro hz1 hz2)))
 clear hi0 hz0 hz1 hz2
 have hc:=h.rest.cells i hi
 have hrow:=h.rest.rows i hi
 rw [hA0] at hc hrow
 obtain ⟨n0,hn0⟩:∃ n0,(m.files i).bytes.length=n0:=⟨_,rfl⟩
 rw [hn0] at hc hrow h1 hA0
 have hown:∀ k,(Value.slice A0 n0 c0).ownBlock=some k→own k:=fun k hk=>h.rest.or i k hi (hA0 ▸ hk)
 have hoc:∀ k,k=a0∨k=b0∨k=d0→(Value.slice A0 n0 c0).ownBlock≠some k:=fun k hk e=>(ho k hk).2 (hown k e)
 have hlc:(Value.slice A0 n0 c0).ownBlock≠some (G.loc i):=fun e=>by
  obtain ⟨cur,h1⟩:=Zx hrow e
  unfold Whole at hc
  rw [hc] at h1
  injection h1 with h1
  injection h1 with _ h1 _
  cases h1
 have hdc:(Value.slice A0 n0 c0).ownBlock≠some d:=fun e=>h.free (hown d e)
 have hld:G.loc i≠d:=fun e=>h.free (e ▸ h.rest.ol i hi)
 -- what stays while only the row's own block turns
 have stay:∀ w',Zc (fun k=>(Value.slice A0 n0 c0).ownBlock=some k) w w'→Whole w' a0 105 #[ptrV (G.loc i)]∧Whole w' b0 37 #[.slice A nb cb]∧Whole w' d0 24 #[ptrV d]∧Whole w' (G.loc i) 108 #[.int .i64 (i:Int),.slice A0 n0 c0,.int .i64 ((m.files i).kept:Int)]∧Whole w' d 89 (Jf m G.nb G.kb G.pv)∧Sl w' A nb cb bs:=fun w' hsp =>
  ⟨ha.same (hsp.same _ ha.lt (hoc _ (.inl rfl))),hb.same (hsp.same _ hb.lt (hoc _ (.inr (.inl rfl)))),hd.same (hsp.same _ hd.lt (hoc _ (.inr (.inr rfl)))),hc.same (hsp.same _ hc.lt hlc),h.top.same (hsp.same _ h.top.lt hdc),
   hs.off hsp.size fun ad e hne hlt=>hsp.same _ hlt fun e2=>(hoff ad e hne).2 (hown _ e2)⟩
 have HST:=hid stay
 have HROW:=hid hrow
 have HDK:=hid h
 have HQ:=hid (And.intro hi (And.intro hown (And.intro hlc (And.intro hdc hld))))
 have HA0:=hid (And.intro hA0 hn0)
 have HS:=hid hs
 have HO:=hid (And.intro ho hoff)
 clear h hi ha hb hd ho hs hoff hA0 hc hrow hn0 hown hoc hlc hdc hld stay
 generalize hlf:G.loc i=lf at *
 have HLF:=hid hlf
 clear hlf
 unfold ptrV
 go_enter Tryz.func190,Tryz.ntmps190
 go_wp2_with (fail)
 refine Zal (G:=Grows) (E:=Zc (fun k=>(Value.slice A0 n0 c0).ownBlock=some k)) 9 [Zu _ (.pointer (some ⟨lf,0,none⟩)),Zu _ (.pointer (some ⟨lf,0,none⟩)),Zu _ (.pointer (some ⟨lf,0,none⟩)),Zu _ (.pointer (some ⟨lf,1,none⟩)),Zu _ (.slice A0 n0 c0),Zu _ (.slice A nb cb),Zl5 _ 0 5 (.slice A0 n0 c0) w.heap.size (n0+nb) (((m.files i).bytes.map byteV)++bs.map byteV),Zu _ (.pointer (some ⟨lf,0,none⟩)),Zu _ (.pointer (some ⟨lf,1,none⟩))] [(false,false),(false,false),(false,false),(false,false),(false,false),(false,false),(true,true),(false,false),(false,false)] (fun w=>w.ownsRow 0 5 1 (.slice A0 n0 c0) n0 ((m.files i).bytes.map byteV)) rfl mixed (by kernel_rfl) (fun _ _=>Zc.grows) (fun _ _ _=>Zc.trans) (Jz _ _) (Yg HROW.out fun _ _=>rfl) (fun _ _ h g=>Zd h g) ?_
 simp only [List.take_succ_cons,List.take_zero,List.drop_succ_cons,List.drop_zero]
 iterate 2
  refine j_val _ (by rfl) ?_ ?_
  ·intro w' hC;obtain ⟨p1,p2,p3,p4,p5,p6⟩:=HST.out w' hC;have q1:w'.cell? ⟨a0,0,none⟩=some (.pointer (some ⟨lf,0,none⟩)):=p1.cell 0;clear p1 p2 p3 p4 p5 p6;clear hC;go_simp
  simp only [Pu]
 iterate 3
  refine j_val _ (by rfl) ?_ ?_
  ·intro w' hC;obtain ⟨p1,p2,p3,p4,p5,p6⟩:=HST.out w' hC;have q1:w'.cell? ⟨lf,1,none⟩=some (.slice A0 n0 c0):=p4.cell 1;clear p1 p2 p3 p4 p5 p6;clear hC;go_simp
  simp only [Pu]
 refine j_val _ (by rfl) ?_ ?_
 ·intro w' hC;obtain ⟨p1,p2,p3,p4,p5,p6⟩:=HST.out w' hC;have q1:w'.cell? ⟨b0,0,none⟩=some (.slice A nb cb):=p2.cell 0;clear p1 p2 p3 p4 p5 p6;clear hC;go_simp
 simp only [Pu]
 refine Zhu (by rfl) (.tmp 7) (.tmp 8) 37 rfl (B:=w.heap.size) Tryz.underlying37 HI.out.1 HI.out.2.1 HI.out.2.2.1 HI.out.2.2.2 rfl rfl (.slice A0 n0 c0) (fun w' h=>⟨h,.inl rfl⟩) (Nat.le_refl _) (fun _ h=>h) (fun _ _ _ h _=>h) rfl (fun w' hC _=>⟨_,(HST.out w' hC).2.2.2.2.2.bytes⟩) HS.out.bare (Y2 _) (n0+nb) rfl (((m.files i).bytes.map byteV)++bs.map byteV) rfl (by unfold maxLen;omega) (by omega) (Nat.zero_le _) (fun _ _ _ _ h _=>h) ?_
 intro A2 cc2
 simp only [Pu]
 iterate 2
  refine j_val _ (by rfl) ?_ ?_
  ·intro w' hC;obtain ⟨p1,p2,p3,p4,p5,p6⟩:=HST.out w' hC;have q1:w'.cell? ⟨lf,1,none⟩=some (.slice A0 n0 c0):=p4.cell 1;clear p1 p2 p3 p4 p5 p6;clear hC;go_simp
  simp only [Pu]
 refine Zew ?_
 intro w2 hC hks hcls
 have HCw2:=hid hC
 have HLw2:=hid hcls
 clear hC hks hcls
 have HSTW:=hid (HST.out w2 HCw2.out)
 obtain ⟨p1,p2,p3,p4,p5,p6⟩:=HSTW.out
 have c1:w2.cell? ⟨lf,1,none⟩=some (.slice A0 n0 c0):=p4.cell 1
 have f1:=p4.free 1
 have HP:=hid (And.intro p1 (And.intro p2 (And.intro p3 (And.intro p4 (And.intro p5 p6)))))
 clear p1 p2 p3 p4 p5 p6
 go_wp2_with (fail)
 obtain ⟨w3,hw3⟩:∃ w3,w2.setCell ⟨lf,1,none⟩ (.slice A2 (n0+nb) cc2)=w3:=⟨_,rfl⟩
 rw [hw3]
 have key:DkTo w d own w3 (m.setFile i ⟨(m.files i).bytes++bs,(m.files i).kept⟩)∧Whole w3 b0 37 #[.slice A nb cb]∧Whole w3 d0 24 #[ptrV d]:=by
  obtain ⟨p1,p2,p3,p4,p5,p6⟩:=HP.out
  obtain ⟨hi,hown,hlc,hdc,hld⟩:=HQ.out
  obtain ⟨hrow,hat⟩:=HLw2.out
  have hne:∀ k,k=a0∨k=b0∨k=d0→k≠lf:=fun k hk e=>(HO.out.1 k hk).2 (e ▸ (HLF.out ▸ HDK.out.rest.ol i hi:own lf))
  have hn2:(Value.slice A2 (n0+nb) cc2).ownBlock≠some lf:=fun e=>by
   obtain ⟨cur,h1⟩:=Zx hrow e
   unfold Whole at p4
   rw [p4] at h1
   injection h1 with h1
   injection h1 with _ h1 _
   cases h1
  have hlen:((m.files i).bytes++bs).length=n0+nb:=by rw [List.length_append,HA0.out.2,HS.out.len]
  refine ⟨HDK.out.filed hi (f:=⟨(m.files i).bytes++bs,(m.files i).kept⟩) (v:=.slice A2 (n0+nb) cc2) ?_ ?_ ?_ ?_,?_,?_⟩
  ·rw [HLF.out,←hw3]
   exact p4.put 1 _
  ·show w3.ownsRow 0 5 1 _ ((m.files i).bytes++bs).length _
   rw [hlen,List.map_append,←hw3]
   exact Yg hrow fun k hk=>Below.heap_setCell _ _ _ _ fun e=>hn2 (by have e:k=lf:=e;exact e ▸ hk)
  ·intro k hk
   rw [HA0.out.1]
   rcases hat with e | ⟨g,e,hg⟩
   ·exact .inl (e ▸ hk)
   ·rw [e] at hk
    cases hk
    exact .inr hg
  ·rw [HLF.out,HA0.out.1,←hw3]
   exact (HCw2.out.wider fun k _ hk=>.inr hk).setCell (p:=⟨lf,1,none⟩) (.inl rfl) _
  ·rw [←hw3]
   exact p2.elsewhere (fun e=>hne b0 (.inr (.inl rfl)) e) _
  ·rw [←hw3]
   exact p3.elsewhere (fun e=>hne d0 (.inr (.inr rfl)) e) _
 clear hw3
 obtain ⟨⟨own3,G3,h3,s3,o3⟩,kb,kd⟩:=key
 have H3:=hid h3
 have S3:=hid s3
 have O3:=hid o3
 have HCL:=hid (show ∀ w',Grows w3 w'→w'.cell? ⟨d0,0,none⟩=some (.pointer (some ⟨d,0,none⟩))∧w'.cell? ⟨b0,0,none⟩=some (.slice A nb cb)∧w'.cell? ⟨d,2,none⟩=some (.int .i64 m.used) from fun w' hg=>⟨hg.cellq kd,hg.cellq kb,hg.cellq h3.top⟩)
 have HLEN:=hid HS.out.len
 clear h3 s3 o3 kb kd HP HSTW HROW HST HLw2 HCw2 c1 f1
 generalize hus:m.used=us at *
 have HUS:=hid hus
 clear hus
 refine Zf (E:=Grows) 9 [Za (.pointer (some ⟨d,0,none⟩)),Za (.pointer (some ⟨d,0,none⟩)),Za (.pointer (some ⟨d,2,none⟩)),Za (.int .i64 us),Za (.slice A nb cb),Za (.int .i64 (nb:Int)),Za (.int .i64 (wrap64 (us+nb))),Za (.pointer (some ⟨d,0,none⟩)),Za (.pointer (some ⟨d,2,none⟩))] mixed (by kernel_rfl) (fun _ _ _=>Grows.trans) (Ze _) ?_
 simp only [List.take_succ_cons,List.take_zero,List.drop_succ_cons,List.drop_zero]
 iterate 5
  refine f_val _ (by rfl) ?_ ?_
  ·intro w' hC;obtain ⟨q1,q2,q3⟩:=HCL.out w' hC;clear hC;go_simp
  simp only [Pu]
 refine f_val _ (by rfl) ?_ ?_
 ·intro w' hC;clear hC;go_simp
 simp only [Pu]
 refine f_val _ (by rfl) ?_ ?_
 ·intro w' hC;clear hC;(go_simp;unfold wrap64;rw [IntKind.wrap_i64])
 simp only [Pu]
 iterate 2
  refine f_val _ (by rfl) ?_ ?_
  ·intro w' hC;obtain ⟨q1,q2,q3⟩:=HCL.out w' hC;clear hC;go_simp
  simp only [Pu]
 refine Zs ?_
 intro w4 hC hks
 have HCw4:=hid hC
 clear hC hks
 have c2:=(HCL.out w4 HCw4.out).2.2
 have f2:=(H3.out.grow HCw4.out).top.free 2
 go_wp2_with (fail)
 go_end0
 obtain rfl:=HUS.out
 refine ⟨rfl,own3,G3,?_,?_,O3.out⟩
 ·have h4:DkAt (w4.setCell ⟨d,2,none⟩ (.int .i64 (wrap64 (m.used+nb)))) d own3 G3 { m.setFile i ⟨(m.files i).bytes++bs,(m.files i).kept⟩ with used:=wrap64 (m.used+nb) }:=(H3.out.grow HCw4.out).set 2 _ rfl rfl rfl rfl rfl rfl
  have e:m.doAppend i bs={ m.setFile i ⟨(m.files i).bytes++bs,(m.files i).kept⟩ with used:=wrap64 (m.used+nb) }:=by
   unfold Dk.doAppend
   rw [HLEN.out]
  rw [e]
  exact h4
 ·exact (S3.out.trans (Zc.grows HCw4.out)).setCell (p:=⟨d,2,none⟩) (.inl rfl) _
end
end Go.Proofs.YtkelafkbmnjpeaaGreat
