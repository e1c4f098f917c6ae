/-
  Texts that the statements lean on, one behind the other.
-/
import Derived.Test.YtkelafkbmnjpeaaGreatMG00
import Derived.WalkKit
import Derived.Maps.AppendAt
import Derived.Laws.AppendOwnNone
import Derived.Test.YtkelafkbmnjpeaaGreatRows
import Derived.Laws.MakeOwn
import Derived.KernelRfl
import Derived.Laws.IdiomStrings
import Derived.Lib.BufferRead
import Derived.Lib.Hide
set_option linter.unusedSimpArgs false
namespace Go.Proofs.YtkelafkbmnjpeaaGreat
open Go.RowKit
structure Fact (E:World→World→Prop) where
 α:Type
 x0:α
 val:α→Value
 R:α→World→Prop
 stays:∀ x w w',R x w→E w w'→R x w'
abbrev Known:=List (Option Tmp×(World→Prop))
def Known.all (ks:Known) (w:World):Prop:=∀ k∈ks,k.2 w
def Known.for (ks:Known) (ls:List Tmp) (w:World):Prop:=∀ k∈ks,(∃ d,k.1=some d∧d∈ls)→k.2 w
theorem Known.all_for {ks:Known} {ls:List Tmp} {w:World} (h:ks.all w):ks.for ls w:=fun k hk _=>h k hk
section
variable {P:Program} {ops:Array Oper} {md:Region.Mode} {E:World→World→Prop} {W:World}
def Zb6 (P:Program) (F:Fact E) (w:World):Result Next→Prop
 | .ok (.value u) w'=>E w w'∧∃ x,u=F.val x∧F.R x w'
 | .ok .skip w'=>E w w'∧∃ x,undef=F.val x∧F.R x w'
 | .ok (.enter f args) w'=>Calls P f args w' fun e w''=>E w w''∧∃ x,e=.returned (F.val x)∧F.R x w''
 | _=>False
def gives (P:Program) (F:Fact E) (o:Oper) (ρ:Operand→Value) (w:World):Prop:=Zb6 P F w ((execOp ρ o).run P w)
def fStep (P:Program) (ops:Array Oper) (E:World→World→Prop) (W:World) (F:Fact E) (o:Oper) (K:Known→Act→Prop) (ks:Known) (a:Act):Prop :=
 if Region.wanted o (yielded ops a.tmps) then (∀ w,E W w→ks.for (o.looksAt ops) w→gives P F o a.eval w)∧∀ x,K ((o.dst,F.R x) :: ks) (a.put o.dst (F.val x)) else K ks (a.put o.dst undef)
def fOp (P:Program) (ops:Array Oper) (E:World→World→Prop) (W:World) (Fs:Nat→Fact E) (i:Nat) (K:Known→Act→Prop) (ks:Known) (a:Act):Prop :=
 match ops[i]? with
 | none=>K ks a
 | some o=>fStep P ops E W (Fs i) o K ks a
theorem Zh9 {F:Fact E} {o:Oper} {K K':Known→Act→Prop} {ks:Known} {a:Act} (h:∀ ks a,K ks a→K' ks a) (hh:fStep P ops E W F o K ks a):fStep P ops E W F o K' ks a:=by
 unfold fStep at *
 split
 ·rename_i hw;simp only [hw,if_true] at hh;exact ⟨hh.1,fun x=>h _ _ (hh.2 x)⟩
 ·rename_i hw;simp only [hw] at hh;exact h _ _ hh
def wpF (P:Program) (ops:Array Oper) (E:World→World→Prop) (W:World) (Q:Act→World→Prop):List Oper→List (Fact E)→Known→Act→Prop
 | [],_,ks,a=>∀ w,E W w→ks.all w→Q a w
 | _ :: _,[],_,_=>False
 | o :: rest,F :: Fs,ks,a=>fStep P ops E W F o (wpF P ops E W Q rest Fs) ks a
def Zb7 (P:Program) (md:Region.Mode) (ops:Array Oper) (E:World→World→Prop) (W:World) (Fs:Nat→Fact E) (Q:Act→World→Prop):Nat→Array Bool→Known→Act→Prop
 | 0,listed,ks,a=>Region.ready md ops listed=[]∧∀ w,E W w→ks.all w→Q a w
 | fuel+1,listed,ks,a =>
   (Region.ready md ops listed=[]→∀ w,E W w→ks.all w→Q a w) ∧
   ∀ i∈Region.ready md ops listed,fOp P ops E W Fs i (Zb7 P md ops E W Fs Q fuel (listed.setIfInBounds i true)) ks a
theorem Zbi {Fs:Nat→Fact E} {Q:Act→World→Prop}:∀ (fuel:Nat) (listed:Array Bool) (ks ks':Known) (a:Act),(∀ k∈ks,k∈ks')→Zb7 P md ops E W Fs Q fuel listed ks a→Zb7 P md ops E W Fs Q fuel listed ks' a
 | 0,_,_,_,_,hk,h=>⟨h.1,fun w hw ha=>h.2 w hw fun k hk'=>ha k (hk k hk')⟩
 | fuel+1,listed,ks,ks',a,hk,h=>by
   refine ⟨fun h0 w hw ha=>h.1 h0 w hw fun k hk'=>ha k (hk k hk'),fun i hi=>?_⟩
   have h1:=h.2 i hi
   unfold fOp at *
   split
   ·rename_i ho;simp only [ho] at h1;exact Zbi fuel _ ks ks' a hk h1
   ·rename_i o ho
    simp only [ho] at h1
    unfold fStep at *
    split
    ·rename_i hw
     simp only [hw,if_true] at h1
     refine ⟨fun w hw' hf=>h1.1 w hw' fun k hk'=>hf k (hk k hk'),fun x=>Zbi fuel _ _ _ _ (fun k hk'=>?_) (h1.2 x)⟩
     rcases List.mem_cons.1 hk' with rfl | hk'
     ·exact List.mem_cons_self
     ·exact List.mem_cons_of_mem _ (hk k hk')
    ·rename_i hw
     simp only [hw] at h1
     exact Zbi fuel _ ks ks' _ hk h1
theorem Zdg {ks:Known} {d:Option Tmp} {R:World→Prop} {ls:List Tmp} {w:World} (hd:∀ t,d=some t→t∉ls) (h:ks.for ls w):Known.for ((d,R) :: ks) ls w:=fun k hk hd'=>by
 rcases List.mem_cons.1 hk with rfl | hk
 ·obtain ⟨t,h1,h2⟩:=hd'
  exact absurd h2 (hd t h1)
 ·exact h k hk hd'
theorem Zen {ks:Known} {p:Option Tmp×(World→Prop)} {ls:List Tmp} {w:World} (h:Known.for (p :: ks) ls w):ks.for ls w:=fun k hk hd=>h k (List.mem_cons_of_mem _ hk) hd
theorem Zeo (p q:Option Tmp×(World→Prop)) (ks:Known):∀ k∈p :: q :: ks,k∈q :: p :: ks:=fun k hk=>by
 simp only [List.mem_cons] at *
 rcases hk with h | h | h
 ·exact .inr (.inl h)
 ·exact .inl h
 ·exact .inr (.inr h)
theorem Zkl {Fs:Nat→Fact E} {Q:Act→World→Prop} {i:Nat} {oi:Oper} (hi:ops[i]?=some oi) (hsel:∀ (j:Nat) (o:Oper) cs b,ops[j]?=some o→o.op≠.select cs b) :
 ∀ (fuel:Nat) (listed:Array Bool) (ks:Known) (a:Act),
  (∀ j oj,ops[j]?=some oj→j≠i→listed.getD j true=false→(∀ e∈oj.after,Region.binds md e=true→e.on≠i)→oi.apart ops oj=true) →
  i∈Region.ready md ops listed→fStep P ops E W (Fs i) oi (Zb7 P md ops E W Fs Q fuel (listed.setIfInBounds i true)) ks a→Zb7 P md ops E W Fs Q (fuel+1) listed ks a:=by
 intro fuel
 induction fuel with
 | zero =>
   intro listed ks a _ hr H
   refine ⟨fun h=>(by rw [h] at hr;cases hr),fun j hj=>?_⟩
   by_cases hji:j=i
   ·subst hji;unfold fOp;simp only [hi];exact H
   ·have:=ready_mono hj hji
    have hnil:Region.ready md ops (listed.setIfInBounds i true)=[]:=by
     unfold fStep at H
     split at H
     ·exact (H.2 (Fs i).x0).1
     ·exact H.1
    rw [hnil] at this
    cases this
 | succ fuel ih =>
   intro listed ks a hfree hr H
   refine ⟨fun h=>(by rw [h] at hr;cases hr),fun j hj=>?_⟩
   by_cases hji:j=i
   ·subst hji;unfold fOp;simp only [hi];exact H
   ·have hjr:=ready_mono hj hji
    obtain ⟨hjun,oj,hoj,hall⟩:=mem_ready.1 hj
    have hnot:∀ e∈oj.after,Region.binds md e=true→e.on≠i:=fun e he hb heq=>by
     have h1:=hall e he hb
     have h0:=(mem_ready.1 hr).1
     rw [heq] at h1
     rcases Nat.lt_or_ge i listed.size with h' | h'
     ·simp [h'] at h0 h1;rw [h0] at h1;cases h1
     ·simp [Array.getElem?_eq_none h'] at h1
    have hap:=hfree j oj hoj hji hjun hnot
    obtain ⟨p1,p2,p3⟩:=Oper.apart_spec hap
    have hsi:=fun cs b=>hsel i oi cs b hi
    have hsj:=fun cs b=>hsel j oj cs b hoj
    have hfree':∀ k ok,ops[k]?=some ok→k≠i→(listed.setIfInBounds j true).getD k true=false →
     (∀ e∈ok.after,Region.binds md e=true→e.on≠i)→oi.apart ops ok=true:=fun k ok hk hki hun hno=>by
     refine hfree k ok hk hki ?_ hno
     by_cases hjk:j=k
     ·subst hjk;exact hjun
     ·rw [getD_set_ne true hjk] at hun;exact hun
    have hri:=ready_mono hr (Ne.symm hji)
    unfold fOp
    simp only [hoj]
    -- what is done behind j, i being done first
    by_cases hwi:Region.wanted oi (yielded ops a.tmps)=true
    ·unfold fStep at H
     simp only [hwi,if_true] at H
     obtain ⟨hgi,hK⟩:=H
     have hJ:∀ x,fStep P ops E W (Fs j) oj (Zb7 P md ops E W Fs Q fuel ((listed.setIfInBounds i true).setIfInBounds j true)) ((oi.dst,(Fs i).R x) :: ks) (a.put oi.dst ((Fs i).val x)):=fun x=>by
      have:=(hK x).2 j hjr
      unfold fOp at this
      simp only [hoj] at this
      exact this
     unfold fStep
     by_cases hwj:Region.wanted oj (yielded ops a.tmps)=true
     ·simp only [hwj,if_true]
      have hJ':∀ x,(∀ w,E W w→Known.for ((oi.dst,(Fs i).R x) :: ks) (oj.looksAt ops) w→gives P (Fs j) oj (a.put oi.dst ((Fs i).val x)).eval w) ∧
       ∀ y,Zb7 P md ops E W Fs Q fuel ((listed.setIfInBounds i true).setIfInBounds j true) ((oj.dst,(Fs j).R y) :: (oi.dst,(Fs i).R x) :: ks) ((a.put oi.dst ((Fs i).val x)).put oj.dst ((Fs j).val y)):=fun x=>by
       have:=hJ x
       unfold fStep at this
       rw [wanted_put oj a oi.dst _ p1] at this
       simp only [hwj,if_true] at this
       exact this
      refine ⟨fun w hw hf=>?_,fun y=>ih _ _ _ hfree' hri ?_⟩
      ·have:=(hJ' (Fs i).x0).1 w hw (Zdg p1 hf)
       unfold gives at *
       rwa [execOp_put oj hsj a oi.dst _ p1] at this
      ·unfold fStep
       rw [wanted_put oi a oj.dst _ p3]
       simp only [hwi,if_true]
       refine ⟨fun w hw hf=>?_,fun x=>?_⟩
       ·have:=hgi w hw (Zen hf)
        unfold gives at *
        rwa [execOp_put oi hsi a oj.dst _ p3]
       ·have:=(hJ' x).2 y
        rw [Array.setIfInBounds_comm _ _ hji,←Act.put_comm a _ _ p2]
        exact Zbi _ _ _ _ _ (Zeo _ _ _) this
     ·simp only [hwj]
      have hJ':∀ x,Zb7 P md ops E W Fs Q fuel ((listed.setIfInBounds i true).setIfInBounds j true) ((oi.dst,(Fs i).R x) :: ks) ((a.put oi.dst ((Fs i).val x)).put oj.dst undef):=fun x=>by
       have:=hJ x
       unfold fStep at this
       rw [wanted_put oj a oi.dst _ p1] at this
       simp only [hwj] at this
       exact this
      refine ih _ _ _ hfree' hri ?_
      unfold fStep
      rw [wanted_put oi a oj.dst _ p3]
      simp only [hwi,if_true]
      refine ⟨fun w hw hf=>?_,fun x=>?_⟩
      ·have:=hgi w hw hf
       unfold gives at *
       rwa [execOp_put oi hsi a oj.dst _ p3]
      ·rw [Array.setIfInBounds_comm _ _ hji,←Act.put_comm a _ _ p2]
       exact hJ' x
    ·unfold fStep at H
     simp only [hwi] at H
     have hJ:fStep P ops E W (Fs j) oj (Zb7 P md ops E W Fs Q fuel ((listed.setIfInBounds i true).setIfInBounds j true)) ks (a.put oi.dst undef):=by
      have:=H.2 j hjr
      unfold fOp at this
      simp only [hoj] at this
      exact this
     unfold fStep at *
     rw [wanted_put oj a oi.dst _ p1] at hJ
     by_cases hwj:Region.wanted oj (yielded ops a.tmps)=true
     ·simp only [hwj,if_true] at *
      refine ⟨fun w hw hf=>?_,fun y=>ih _ _ _ hfree' hri ?_⟩
      ·have:=hJ.1 w hw hf
       unfold gives at *
       rwa [execOp_put oj hsj a oi.dst _ p1] at this
      ·rw [wanted_put oi a oj.dst _ p3]
       simp only [hwi]
       have:=hJ.2 y
       rw [Array.setIfInBounds_comm _ _ hji,←Act.put_comm a _ _ p2]
       exact this
     ·simp only [hwj] at *
      refine ih _ _ _ hfree' hri ?_
      rw [wanted_put oi a oj.dst _ p3]
      simp only [hwi]
      rw [Array.setIfInBounds_comm _ _ hji,←Act.put_comm a _ _ p2]
      exact hJ
theorem Zia {Fs:Nat→Fact E} {Q:Act→World→Prop} (hs:Region.noSelect ops=true):∀ (l:List Oper) (k:Nat) (fs:List (Fact E)) (listed:Array Bool) (ks:Known) (a:Act),(∀ j,l[j]?=ops[k+j]?) →
 (∀ j F,fs[j]?=some F→Fs (k+j)=F)→Region.lexFrom md ops l.length k listed=true→wpF P ops E W Q l fs ks a→Zb7 P md ops E W Fs Q l.length listed ks a
 | [],_,_,_,_,_,_,_,hB,h=>⟨by simpa [Region.lexFrom] using hB,h⟩
 | o :: l,k,[],listed,ks,a,hl,hF,hB,h=>h.elim
 | o :: l,k,F :: fs,listed,ks,a,hl,hF,hB,h=>by
   have h0:ops[k]?=some o:=by simpa using (hl 0).symm
   have hF0:Fs k=F:=by simpa using hF 0 F rfl
   simp only [List.length_cons,Region.lexFrom,Bool.and_eq_true] at hB
   obtain ⟨⟨hr,hf⟩,hB'⟩:=hB
   refine Zkl h0 (Region.noSelect_spec hs) l.length listed ks a (Region.free_spec h0 hf) (by simpa using hr) ?_
   rw [hF0]
   exact Zh9 (fun ks a h=>Zia hs l (k+1) fs _ ks a (fun j=>by have:=hl (j+1);simpa [Nat.add_assoc,Nat.add_comm 1 j] using this)
    (fun j F' hj=>by have:=hF (j+1) F' (by simpa using hj);simpa [Nat.add_assoc,Nat.add_comm 1 j] using this) hB' h) h
theorem Jg {Fs:Nat→Fact E} {Q:Act→World→Prop} {Q':Exit→Act→World→Prop} (ht:∀ a b c,E a b→E b c→E a c) (hQ:∀ a w,Q a w→Q' .normal a w) :
 ∀ (fuel:Nat) (listed:Array Bool) (ks:Known) (a:Act) (w:World),E W w→ks.all w→(∀ k∈ks,∀ w w',k.2 w→E w w'→k.2 w')→Zb7 P md ops E W Fs Q fuel listed ks a→wpAny P md ops Q' fuel listed a w
 | 0,_,ks,_,w,hw,ha,_,h=>⟨h.1,hQ _ _ (h.2 w hw ha)⟩
 | fuel+1,listed,ks,a,w,hw,ha,hst,h=>by
   refine ⟨fun h0=>hQ _ _ (h.1 h0 w hw ha),fun i hi=>?_⟩
   have h1:=h.2 i hi
   unfold fOp at h1
   unfold wpOp
   split
   ·rename_i ho;simp only [ho] at h1;exact Jg ht hQ fuel _ ks a w hw ha hst h1
   ·rename_i o ho
    simp only [ho] at h1
    unfold fStep at h1
    split
    ·rename_i hwd
     simp only [hwd,if_true] at h1
     obtain ⟨hg,hK⟩:=h1
     have hg':=hg w hw (Known.all_for ha)
     have go:∀ x w',E w w'→(Fs i).R x w'→wpAny P md ops Q' fuel (listed.setIfInBounds i true) (a.put o.dst ((Fs i).val x)) w':=fun x w' he hR =>
      Jg ht hQ fuel _ _ _ w' (ht _ _ _ hw he) (fun k hk=>by
       rcases List.mem_cons.1 hk with rfl | hk
       ·exact hR
       ·exact hst k hk _ _ (ha k hk) he) (fun k hk=>by
       rcases List.mem_cons.1 hk with rfl | hk
       ·exact (Fs i).stays x
       ·exact hst k hk) (hK x)
     left
     unfold gives at hg'
     unfold Oper.wp
     generalize (execOp a.eval o).run P w=r at *
     cases r with
     | ok n w' =>
       cases n <;> simp only [Zb6] at hg' <;> simp only [Oper.upon]
       case value u=>obtain ⟨he,x,rfl,hR⟩:=hg';exact go x w' he hR
       case skip=>obtain ⟨he,x,hx,hR⟩:=hg';rw [hx];exact go x w' he hR
       case enter f args=>exact hg'.mono fun e w'' ⟨he,x,hx,hR⟩=>by subst hx;exact go x w'' he hR
     | halt x w'=>simp only [Zb6] at hg'
    ·rename_i hwd
     simp only [hwd] at h1
     exact Jg ht hQ fuel _ ks _ w hw ha hst h1
theorem Zk {id:Nat} {Q:Exit→Act→World→Prop} {a:Act} {w:World} {l:List Oper} (fs:List (Fact E)) (hm:P.follows .mixedOrders=true) (hB:Region.lexB .any l.toArray=true)
 (ht:∀ a b c,E a b→E b c→E a c) (hd:E w { w with drawn:=w.drawn+1 }) (h:wpF P l.toArray E w (fun a' w'=>Q .normal a' w') l fs [] a):(Code.region id l.toArray true).wp P Q a w:=by
 simp only [Region.lexB,Bool.and_eq_true] at hB
 refine wp_region_any hm ?_
 have hlex:=Zia (P:=P) (md:=.any) (ops:=l.toArray) (E:=E) (W:=w) (Fs:=fun i=>(fs[i]?).getD ⟨Unit,(),fun _=>undef,fun _ _=>True,fun _ _ _ _ _=>trivial⟩) (Q:=fun a' w'=>Q .normal a' w') hB.1 l 0 fs (Array.replicate l.toArray.size false) [] a
  (by simp) (fun j F hj=>by simp only [Nat.zero_add,hj,Option.getD_some]) (by simpa using hB.2) h
 have:=Jg (ks:=[]) (Q:=fun a' w'=>Q .normal a' w') (Q':=Q) ht (fun _ _ h=>h) _ _ _ { w with drawn:=w.drawn+1 } hd (fun k hk=>by cases hk) (fun k hk=>by cases hk) hlex
 simpa using this
end
end Go.Proofs.YtkelafkbmnjpeaaGreat
namespace Go.Proofs.YtkelafkbmnjpeaaGreat
open Go.RowKit
section
variable {P:Program} {ops:Array Oper} {rest:List Oper} {o:Oper} {a:Act} {w:World} {Q:Exit→Act→World→Prop}
theorem Jh {base:Nat} {t ty e:TypeId} {i:TypeInfo} {z:Value} {bytes:Nat} (ht:P.underlying t=some (.slice e)) (hi:P.info? e=some i) (hz:i.zero=some z)
 (hsize:i.size=1) (hby:i.bytes=bytes) (hzs:z.cells.size=1) {v:Value} {n:Nat} {xs:List Value} (hown:w.ownsRow base e 1 v n xs)
 {B:Nat} {A:Option Addr} {m c:Nat} {news:List Value} (hr:Row w B A m news) (hbare:A=none→c=0) (h1:∀ u∈news,u.oneCell'=true)
 (h63:n+m≤maxLen) (hbytes:(n+m)*bytes≤140737488355328) (hbase:base≤w.heap.size) :
 ∃ v' w',(Builtin.append_ #[t,t] ty #[v,.slice A m c]).run P w=.ok v' w'∧w'.ownsRow base e 1 v' (n+m) (xs++news)∧w.grownBy w' v.ownBlock∧(v'.ownBlock=v.ownBlock∨v'.ownBlock=some w.heap.size):=by
 rcases A with _ | ad
 ·have hnil:news=[]:=by
   rcases news with _ | ⟨u,us⟩
   ·rfl
   ·obtain ⟨ad,he,_⟩:=hr.spot 0 u rfl
    cases he
  subst hnil
  have hm:m=0:=by have:=hr.len;simpa using this.symm
  have hc:=hbare rfl
  subst hm hc
  exact ⟨v,w,run_append_owned_none (P:=P) (w:=w) base t ty e i 1 ht hi v n xs hown,by simpa using hown,World.grownBy.refl w _,.inl rfl⟩
 ·obtain ⟨v',w',hrun,h2,h3,_,h5⟩:=run_append_own_at (P:=P) (w:=w) base t ty e i z 1 bytes ht hi hz hsize hby hzs (by omega) v n xs hown ad m c news (by rw [hr.len];omega)
   (fun j u hu=>by obtain ⟨ad',he,_,hc⟩:=hr.spot j u hu;injection he with he;subst he;exact hc) h1 h63 hbytes hbase
  exact ⟨v',w',hrun,h2,h3,h5⟩
theorem Zo {base:Nat} {e:TypeId} {v:Value} {n:Nat} {xs:List Value} (h:w.ownsRow base e 1 v n xs):∃ A c,v=.slice A n c∧(A=none→c=0):=by
 rcases h.2 with ⟨rfl,rfl⟩ | ⟨g,cap,_,rfl,_⟩
 ·exact ⟨none,0,rfl,fun _=>rfl⟩
 ·exact ⟨_,cap,rfl,fun h=>by cases h⟩
theorem Yj (hgd:o.guard=none) (s x:Operand) (t:TypeId) (ho:o.op=.call { callee:=.builtin .append,args:=#[s,x],argTypes:=#[t,t] })
 {base:Nat} {e:TypeId} {i:TypeInfo} {z:Value} {bytes:Nat} (ht:P.underlying t=some (.slice e)) (hi:P.info? e=some i) (hz:i.zero=some z)
 (hsize:i.size=1) (hby:i.bytes=bytes) (hzs:z.cells.size=1) {v:Value} {n:Nat} {xs:List Value} (hs:a.eval s=v) (hown:w.ownsRow base e 1 v n xs)
 {B:Nat} {A:Option Addr} {m c:Nat} {news:List Value} (hx:a.eval x=.slice A m c) (hr:Row w B A m news) (hbare:A=none→c=0) (h1:∀ u∈news,u.oneCell'=true)
 (k:Nat) (hk:n+m=k) (ys:List Value) (hys:xs++news=ys) (h63:k≤maxLen) (hbytes:k*bytes≤140737488355328) (hbase:base≤w.heap.size)
 (h:∀ A' c' w',w'.ownsRow base e 1 (.slice A' k c') k ys→(A'=none→c'=0)→w.grownBy w' v.ownBlock→((Value.slice A' k c').ownBlock=v.ownBlock∨(Value.slice A' k c').ownBlock=some w.heap.size)→wpList P ops Q rest (a.put o.dst (.slice A' k c')) w'):wpList P ops Q (o :: rest) a w:=by
 subst hk hys
 refine wpList_plain hgd fun K hK=>?_
 obtain ⟨v',w',hrun,h2,h3,h4⟩:=Jh (P:=P) (ty:=o.type) ht hi hz hsize hby hzs hown hr hbare h1 h63 hbytes hbase
 obtain ⟨A',c',rfl,hb'⟩:=Zo h2
 unfold Oper.wp execOp
 simp only [ho,resolve,invoke,builtin,Sem.run_bind,Sem.run_pure,Result.andThen_ok,List.map_toArray,List.map_cons,List.map_nil,hs,hx,hrun]
 exact hK _ _ (h A' c' w' h2 hb' h3 h4)
end
theorem Zkm {B:Nat} {w0 w w':World} {v:Value} (hb:Below B w0 w) (hg:w.grownBy w' v.ownBlock) (hB:B≤w.heap.size) (hv:∀ g,v.ownBlock=some g→B≤g):Below B w0 w' :=
 hb.grown hg hB hv
theorem Ja (bs:List UInt8):∀ u∈bs.map byteV,u.oneCell'=true:=by
 intro u hu
 obtain ⟨b,_,rfl⟩:=List.mem_map.1 hu
 rfl
end Go.Proofs.YtkelafkbmnjpeaaGreat
namespace Go.Proofs.YtkelafkbmnjpeaaGreat
open Go.RowKit
structure Sl (w:World) (A:Option Addr) (n c:Nat) (bs:List UInt8):Prop where
 bytes:Bytes w w.heap.size A n bs
 cap:n≤c
 bare:A=none→c=0
section
variable {w w':World} {A:Option Addr} {n c:Nat} {bs:List UInt8}
theorem Sl.len (h:Sl w A n c bs):bs.length=n:=Bytes.len h.bytes
theorem Sl.grow (hg:Grows w w') (h:Sl w A n c bs):Sl w' A n c bs:=⟨hg.bytes h.bytes,h.cap,h.bare⟩
theorem Sl.nil (w:World):Sl w none 0 0 []:=⟨Bytes.nil _ _ _,Nat.le_refl _,fun _=>rfl⟩
theorem Sl.alloc (h:Sl w A n c bs) (o:Obj):Sl (w.alloc o) A n c bs:=h.grow ((Below.refl _ _).alloc (Nat.le_refl _) o)
theorem Sl.owned {base:Nat} {e:TypeId} (h:w.ownsRow base e 1 (.slice A n c) n (bs.map byteV)):Sl w A n c bs:=by
 refine ⟨Row.owned h,?_,fun hA=>?_⟩
 ·rcases h.2 with ⟨h1,h2⟩ | ⟨g,cap,_,h1,_,_,h2,_⟩
  ·omega
  ·injection h1 with _ _ h1;omega
 ·rcases h.2 with ⟨h1,h2⟩ | ⟨g,cap,_,h1,_⟩
  ·injection h1
  ·injection h1 with h1 _ _;rw [hA] at h1;cases h1
theorem Sl.first (h:Sl w A n c bs) {k:Nat} (hk:k≤n):Sl w A k c (bs.take k):=⟨h.bytes.first hk,Nat.le_trans hk h.cap,h.bare⟩
end
theorem Sl.part {w:World} {ad:Addr} {n c k m:Nat} {bs:List UInt8} (h:Sl w (some ad) n c bs) (hk:k≤m) (hm:m≤n) (hc:¬ c=k):Sl w (some (ad.add k)) (m - k) (c - k) ((bs.take m).drop k):=by
 have h1:=h.first hm
 refine ⟨?_,by have:=h.cap;omega,fun h=>by cases h⟩
 have h2:=Row.behind (k:=k) (cap:=c) h1.bytes hk h1.cap
 rw [if_neg hc] at h2
 unfold Bytes
 rw [List.map_drop]
 exact h2
theorem Zd {w w':World} {base:Nat} {e:TypeId} {size:Nat} {v:Value} {n:Nat} {xs:List Value} (h:w.ownsRow base e size v n xs) (hg:Grows w w'):w'.ownsRow base e size v n xs:=by
 obtain ⟨h1,h2⟩:=h
 refine ⟨h1,?_⟩
 rcases h2 with h2 | ⟨g,cap,cur,hv,hb,hh,r⟩
 ·exact .inl h2
 ·exact .inr ⟨g,cap,cur,hv,hb,by rw [hg.block g (Array.getElem?_eq_some_iff.1 hh).1];exact hh,r⟩
theorem Zg {w:World} {base base':Nat} {e:TypeId} {size:Nat} {v:Value} {n:Nat} {xs:List Value} (h:w.ownsRow base e size v n xs) (hb:base'≤base):w.ownsRow base' e size v n xs:=by
 obtain ⟨h1,h2⟩:=h
 refine ⟨h1,?_⟩
 rcases h2 with h2 | ⟨g,cap,cur,hv,hg,r⟩
 ·exact .inl h2
 ·exact .inr ⟨g,cap,cur,hv,Nat.le_trans hb hg,r⟩
theorem infoU8:(Tryz.prog.info? 5).map (fun i=>(i.zero,i.size,i.bytes))=some (some (.int .u8 0),1,1):=by kernel_rfl
section
variable {P:Program} {ops:Array Oper} {rest:List Oper} {o:Oper} {a:Act} {w:World} {Q:Exit→Act→World→Prop}
end
section
variable {ops:Array Oper} {rest:List Oper} {o:Oper} {a:Act} {w:World} {Q:Exit→Act→World→Prop}
end
theorem Zor (w:World):(w.alloc (.cells #[] 5)).ownsRow w.heap.size 5 1 (.slice (some ⟨w.heap.size,0,none⟩) 0 0) 0 (([]:List UInt8).map byteV):=World.ownsRow_lit w #[] 0 (Nat.le_refl _) (Nat.zero_le _) rfl
theorem Za (w:World) (o:Obj):Grows w (w.alloc o):=(Below.refl _ _).alloc (Nat.le_refl _) o
theorem Zdu (w:World) (o:Obj):w.heap.size≤(w.alloc o).heap.size:=by simp
end Go.Proofs.YtkelafkbmnjpeaaGreat
namespace Go.Proofs.YtkelafkbmnjpeaaGreat
open Go.RowKit
def Held (w:World) (g:Nat) (cs:Array Value):Prop:=∃ t fr,w.heap[g]?=some (.cells cs t fr)
theorem Held.lt {w:World} {g:Nat} {cs:Array Value} (h:Held w g cs):g < w.heap.size:=by
 obtain ⟨t,fr,h⟩:=h
 exact (Array.getElem?_eq_some_iff.1 h).1
theorem Whole.same {w w':World} {g t:Nat} {cs:Array Value} (h:Whole w g t cs) (e:w'.heap[g]?=w.heap[g]?):Whole w' g t cs:=by
 unfold Whole
 rw [e]
 exact h
theorem Held.bytes {w:World} {g n:Nat} {cs:Array Value} (h:Held w g cs) (bs:List UInt8) (he:cs=(bs.map byteV).toArray) (hn:bs.length=n):Bytes w w.heap.size (some ⟨g,0,none⟩) n bs:=by
 have hl:=h.lt
 obtain ⟨t,fr,h⟩:=h
 refine ⟨by simp [hn],fun k v hv=>⟨⟨g,0,none⟩,rfl,hl,?_⟩⟩
 rw [show (⟨g,0,none⟩:Addr).add k=⟨g,k,none⟩ by unfold Addr.add;split <;> simp_all,cell_of_row w g k cs t fr h,he]
 simpa using hv
theorem Held.sl {w:World} {g n:Nat} {cs:Array Value} (h:Held w g cs) (bs:List UInt8) (he:cs=(bs.map byteV).toArray) (hn:bs.length=n):Sl w (some ⟨g,0,none⟩) n n bs :=
 ⟨h.bytes bs he hn,Nat.le_refl _,fun h=>by cases h⟩
theorem Whole.sl {w:World} {g n t:Nat} {cs:Array Value} (h:Whole w g t cs) (bs:List UInt8) (he:cs=(bs.map byteV).toArray) (hn:bs.length=n):Sl w (some ⟨g,0,none⟩) n n bs :=
 Held.sl ⟨t,_,h⟩ bs he hn
theorem Z8 {w:World} {A:Option Addr} {n c:Nat} {bs:List UInt8} (h:Sl w A n c bs):(convert 37 9 (.slice A n c)).run Tryz.prog w=.ok (.string ⟨bs.toArray⟩) w:=by
 have hl:=h.len
 subst hl
 cases A with
 | none =>
   have hc:=h.bare rfl
   have hn:=h.cap
   have hb:bs=[]:=List.eq_nil_of_length_eq_zero (by omega)
   subst hb
   exact Lib.run_convert_nil_bytes w 37 9 _ c Tryz.underlying37 Tryz.underlying5 Tryz.underlying9
 | some ad =>
   refine run_convert_bytes_back w 37 9 _ ad c bs Tryz.underlying37 Tryz.underlying5 Tryz.underlying9 (fun j hj=>?_)
   obtain ⟨_,e,_,hc⟩:=h.bytes.spot hj
   injection e with e
   subst e
   rw [hc]
   simp [hj]
end Go.Proofs.YtkelafkbmnjpeaaGreat
namespace Go.Proofs.YtkelafkbmnjpeaaGreat
open Go.RowKit
def Zb (v:Value):Fact Grows:=⟨Unit,(),fun _=>v,fun _ _=>True,fun _ _ _ _ _=>trivial⟩
def J1 (bs:List UInt8):Fact Grows:=⟨Option Addr×Nat,(none,0),fun p=>.slice p.1 bs.length p.2,fun p w=>Sl w p.1 bs.length p.2 bs,fun _ _ _ h g=>Sl.grow g h⟩
theorem Known.get {ks:Known} {ls:List Tmp} {w:World} (h:ks.for ls w) (i:Nat) {d:Tmp} {R:World→Prop} (hi:ks[i]?=some (some d,R)) (hd:ls.contains d=true):R w :=
 h _ (List.mem_of_getElem? hi) ⟨d,rfl,by simpa using hd⟩
section
variable {P:Program} {ops:Array Oper} {W:World} {Q:Act→World→Prop} {o:Oper} {rest:List Oper} {fs:List (Fact Grows)} {ks:Known} {a:Act}
theorem Zds {E:World→World→Prop}:∀ (l:List Oper) (fs:List (Fact E)) (ks ks':Known) (a:Act),(∀ k∈ks,k∈ks')→wpF P ops E W Q l fs ks a→wpF P ops E W Q l fs ks' a
 | [],_,_,_,_,hk,h=>fun w hw ha=>h w hw fun k hk'=>ha k (hk k hk')
 | _ :: _,[],_,_,_,_,h=>h.elim
 | o :: l,F :: fs,ks,ks',a,hk,h=>by
   unfold wpF fStep at *
   split
   ·rename_i hw
    simp only [hw,if_true] at h
    refine ⟨fun w hw' hf=>h.1 w hw' fun k hk'=>hf k (hk k hk'),fun x=>Zds l fs _ _ _ (fun k hk'=>?_) (h.2 x)⟩
    rcases List.mem_cons.1 hk' with rfl | hk'
    ·exact List.mem_cons_self
    ·exact List.mem_cons_of_mem _ (hk k hk')
   ·rename_i hw
    simp only [hw] at h
    exact Zds l fs ks ks' _ hk h
theorem f_val (v:Value) (hw:Region.wanted o (yielded ops a.tmps)=true) (h1:∀ w,Grows W w→(execOp a.eval o).run P w=.ok (.value v) w) (h2:wpF P ops Grows W Q rest fs ks (a.put o.dst v)) :
 wpF P ops Grows W Q (o :: rest) (Zb v :: fs) ks a:=by
 unfold wpF fStep
 rw [if_pos hw]
 refine ⟨fun w hW _=>?_,fun x=>Zds _ _ ks _ _ (fun k hk=>List.mem_cons_of_mem _ hk) h2⟩
 unfold gives
 rw [h1 w hW]
 exact ⟨Grows.refl w,(),rfl,trivial⟩
theorem Zl2 (v:Value) (hw:Region.wanted o (yielded ops a.tmps)=true) (h1:∀ w,Grows W w→ks.for (o.looksAt ops) w→(execOp a.eval o).run P w=.ok (.value v) w) (h2:wpF P ops Grows W Q rest fs ks (a.put o.dst v)) :
 wpF P ops Grows W Q (o :: rest) (Zb v :: fs) ks a:=by
 unfold wpF fStep
 rw [if_pos hw]
 refine ⟨fun w hW hk=>?_,fun x=>Zds _ _ ks _ _ (fun k hk=>List.mem_cons_of_mem _ hk) h2⟩
 unfold gives
 rw [h1 w hW hk]
 exact ⟨Grows.refl w,(),rfl,trivial⟩
theorem Z7 (f:FuncId) (args:Array Value) (v:Value) (hw:Region.wanted o (yielded ops a.tmps)=true) (h1:∀ w,Grows W w→(execOp a.eval o).run P w=.ok (.enter f args) w)
 (hc:∀ w,Grows W w→ks.for (o.looksAt ops) w→Calls P f args w fun e w'=>e=.returned v∧Grows w w') (h2:wpF P ops Grows W Q rest fs ks (a.put o.dst v)) :
 wpF P ops Grows W Q (o :: rest) (Zb v :: fs) ks a:=by
 unfold wpF fStep
 rw [if_pos hw]
 refine ⟨fun w hW hk=>?_,fun x=>Zds _ _ ks _ _ (fun k hk=>List.mem_cons_of_mem _ hk) h2⟩
 unfold gives
 rw [h1 w hW]
 exact (hc w hW hk).mono fun e w' ⟨he,hg⟩=>⟨hg,(),he,trivial⟩
theorem f_new (bs:List UInt8) (f:FuncId) (args:Array Value) (hw:Region.wanted o (yielded ops a.tmps)=true) (h1:∀ w,Grows W w→(execOp a.eval o).run P w=.ok (.enter f args) w)
 (hc:∀ w,Grows W w→ks.for (o.looksAt ops) w→Calls P f args w fun e w'=>∃ A m c,e=.returned (.slice A m c)∧Sl w' A m c bs∧Below w.heap.size w w')
 (h2:∀ A c,wpF P ops Grows W Q rest fs ((o.dst,fun w=>Sl w A bs.length c bs) :: ks) (a.put o.dst (.slice A bs.length c))) :
 wpF P ops Grows W Q (o :: rest) (J1 bs :: fs) ks a:=by
 unfold wpF fStep
 rw [if_pos hw]
 refine ⟨fun w hW hk=>?_,fun x=>h2 x.1 x.2⟩
 unfold gives
 rw [h1 w hW]
 refine (hc w hW hk).mono fun e w' ⟨A,m,c,he,hs,hb⟩=>⟨hb,(A,c),?_,?_⟩
 ·rw [he,←hs.len];rfl
 ·have:=hs.len;subst this;exact hs
theorem Zc8 {F:Fact Grows} (hw:Region.wanted o (yielded ops a.tmps)=false) (h2:wpF P ops Grows W Q rest fs ks (a.put o.dst undef)):wpF P ops Grows W Q (o :: rest) (F :: fs) ks a:=by
 unfold wpF fStep
 rw [if_neg (by simp [hw])]
 exact h2
theorem Zdt {w:World} {A:Option Addr} {n c:Nat} {bs:List UInt8} {x:Operand} (ho:o.op=.convert 37 9 x) (hx:a.eval x=.slice A n c) (h:Sl w A n c bs) :
 (execOp a.eval o).run Tryz.prog w=.ok (.value (.string ⟨bs.toArray⟩)) w:=by
 unfold execOp
 simp only [ho,hx,Sem.run_bind,Sem.run_pure,Z8 h,Result.andThen_ok]
end
theorem Zf (w:World):Grows w { w with drawn:=w.drawn+1 }:=⟨rfl,rfl,rfl,Nat.le_refl _,fun _ _=>rfl⟩
end Go.Proofs.YtkelafkbmnjpeaaGreat
namespace Go.Proofs.YtkelafkbmnjpeaaGreat
open Go.RowKit Go.Maps
open Go.WideElems (Fit rd rg pl rd_val elemAt)
theorem Ym {w w':World} {base:Nat} {e:TypeId} {size:Nat} {v:Value} {n:Nat} {xs:List Value} (h:w.ownsRow base e size v n xs) (hk:∀ k,v.ownBlock=some k→w'.heap[k]?=w.heap[k]?):w'.ownsRow base e size v n xs:=by
 obtain ⟨h1,h2⟩:=h
 refine ⟨h1,?_⟩
 rcases h2 with h2 | ⟨g,cap,cur,rfl,hb,hh,r⟩
 ·exact .inl h2
 ·exact .inr ⟨g,cap,cur,rfl,hb,(hk g rfl).trans hh,r⟩
theorem Z3 {w:World} {base:Nat} {e:TypeId} {size:Nat} {v:Value} {n:Nat} {xs:List Value} (h:w.ownsRow base e size v n xs) {k:Nat} (hk:v.ownBlock=some k):∃ cur,w.heap[k]?=some (.cells cur e (0,0)):=by
 rcases h.2 with ⟨rfl,_⟩ | ⟨g,cap,cur,rfl,hb,hh,r⟩
 ·simp [Value.ownBlock] at hk
 ·obtain rfl:g=k:=by simpa [Value.ownBlock] using hk
  exact ⟨cur,hh⟩
section
variable {H:Type} {P:Program} {k:TypeId} {R R':Value→Option (DataW H×List MemPlace)} {w w':World} {b n:Nat} {D:DataW H}
theorem Ys (h:w.ownsMap P k R b n D) (e:w'.heap[b]?=w.heap[b]?):w'.ownsMap P k R b n D:=by
 obtain ⟨es,clock,hb,r⟩:=h
 exact ⟨es,clock,e.trans hb,r⟩
theorem Z4 (h:w.ownsMap P k R b n D):∃ es clock,w.heap[b]?=some (.map es clock):=by
 obtain ⟨es,clock,hb,_⟩:=h
 exact ⟨es,clock,hb⟩
theorem Zgb (h:w.ownsMap P k R b n D):w.ownsMap P k R b (Maps.size D) D:=by
 obtain ⟨es,clock,hb,F,hs,rfl⟩:=h
 refine ⟨es,clock,hb,F,?_,rfl⟩
 simp [Maps.size,length_sorted]
theorem Zh6 (h:w.ownsMap P k R b n D) (hR:∀ v z,R v=some z→R' v=some z):w.ownsMap P k R' b n D:=by
 obtain ⟨es,clock,hb,F,hs,rfl⟩:=h
 obtain ⟨F1,hmap,_⟩:=F.stay (R':=R') fun x _ z hz=>hR _ _ hz
 exact ⟨es,clock,hb,F1,hs,by rw [hmap]⟩
end
def ptrR (made:Nat) (loc:Nat→Nat):Value→Option (DataW Unit×List MemPlace)
 | .pointer none=>some (.lit (.int .i64 (-1)),[])
 | .pointer (some ⟨b,0,none⟩)=>((List.range made).find? fun i=>loc i==b).map fun (i:Nat)=>(.lit (.int .i64 (i:Int)),[])
 | _=>none
theorem Znh (made:Nat) (loc:Nat→Nat):ptrR made loc (.pointer none)=some (.lit (.int .i64 (-1)),[]):=rfl
theorem Zl0 {made:Nat} {loc:Nat→Nat} (hinj:∀ i j,i < made→j < made→loc i=loc j→i=j) {i:Nat} (hi:i < made):ptrR made loc (.pointer (some ⟨loc i,0,none⟩))=some (.lit (.int .i64 (i:Int)),[]):=by
 unfold ptrR
 cases h:(List.range made).find? fun j=>loc j==loc i with
 | none=>simpa using (List.find?_eq_none.1 h) i (List.mem_range.2 hi)
 | some j =>
   have h1:=List.find?_some h
   have h2:=List.mem_range.1 (List.mem_of_find?_eq_some h)
   obtain rfl:=hinj j i h2 hi (by simpa using h1)
   simp only [h]
   rfl
theorem Zfl {made:Nat} {loc:Nat→Nat} {v:Value} {z:DataW Unit×List MemPlace} (h:ptrR made loc v=some z) :
 (v=.pointer none∧z=(.lit (.int .i64 (-1)),[]))∨∃ i,i < made∧v=.pointer (some ⟨loc i,0,none⟩)∧z=(.lit (.int .i64 (i:Int)),[]):=by
 unfold ptrR at h
 split at h
 ·cases h;exact .inl ⟨rfl,rfl⟩
 ·rename_i b
  cases hf:(List.range made).find? fun i=>loc i==b with
  | none=>rw [hf] at h;cases h
  | some i =>
    rw [hf] at h
    cases h
    have h1:=List.find?_some hf
    have h2:=List.mem_range.1 (List.mem_of_find?_eq_some hf)
    have h3:loc i=b:=by simpa using h1
    exact .inr ⟨i,h2,by rw [h3],rfl⟩
 ·cases h
theorem Zkj {made made':Nat} {loc loc':Nat→Nat} (hinj:∀ i j,i < made'→j < made'→loc' i=loc' j→i=j) (hm:made≤made') (hl:∀ i,i < made→loc' i=loc i) (v:Value) (z:DataW Unit×List MemPlace) (h:ptrR made loc v=some z):ptrR made' loc' v=some z:=by
 rcases Zfl h with ⟨rfl,rfl⟩ | ⟨i,hi,rfl,rfl⟩
 ·rfl
 ·rw [←hl i hi]
  exact Zl0 hinj (by omega)
structure Geo where
 nb:Nat
 kb:Nat
 pv:Value
 pvs:List Value
 loc:Nat→Nat
 row:Nat→Value
def strB (n:Nm):Value:=.string ⟨n.toArray⟩
def ptrV (b:Nat):Value:=.pointer (some ⟨b,0,none⟩)
def ChAt (w:World) (own:Nat→Prop) (made:Nat) (loc:Nat→Nat) (v:Value):Ch→Prop
 | .made n f=>n.length≤maxLen∧f < made∧∃ a b,v=.func (.func 260) #[] #[ptrV b,ptrV a]∧own a∧own b∧Whole w b 105 #[ptrV (loc f)]∧Whole w a 9 #[strB n]
 | .moved n to=>n.length≤maxLen∧to.length≤maxLen∧∃ a b,v=.func (.func 304) #[] #[ptrV a,ptrV b]∧own a∧own b∧Whole w a 9 #[strB n]∧Whole w b 9 #[strB to]
 | .taken n=>n.length≤maxLen∧∃ a,v=.func (.func 261) #[] #[ptrV a]∧own a∧Whole w a 9 #[strB n]
theorem ChAt.stay {w w':World} {own own':Nat→Prop} {made made':Nat} {loc loc':Nat→Nat} {v:Value} {c:Ch} (h:ChAt w own made loc v c) (ho:∀ k,own k→own' k) (hm:made≤made') (hl:∀ i,i < made→loc' i=loc i)
 (hs:∀ k,own k→(∀ cs t,w.heap[k]?=some (.cells cs t (0,0))→t=105∨t=9→w'.heap[k]?=w.heap[k]?)):ChAt w' own' made' loc' v c:=by
 cases c with
 | made n f =>
   obtain ⟨h1,h2,a,b,h3,h4,h5,h6,h7⟩:=h
   exact ⟨h1,by omega,a,b,h3,ho _ h4,ho _ h5,by rw [hl f h2];exact h6.same (hs b h5 _ _ h6 (.inl rfl)),h7.same (hs a h4 _ _ h7 (.inr rfl))⟩
 | moved n to =>
   obtain ⟨h1,h2,a,b,h3,h4,h5,h6,h7⟩:=h
   exact ⟨h1,h2,a,b,h3,ho _ h4,ho _ h5,h6.same (hs a h4 _ _ h6 (.inr rfl)),h7.same (hs b h5 _ _ h7 (.inr rfl))⟩
 | taken n =>
   obtain ⟨h1,a,h3,h4,h6⟩:=h
   exact ⟨h1,a,h3,ho _ h4,h6.same (hs a h4 _ _ h6 (.inr rfl))⟩
abbrev Zdf (w:World) (made:Nat) (loc:Nat→Nat) (b:Nat) (l:Dir):Prop:=w.ownsMap Tryz.prog 9 (ptrR made loc) b l.length (encD l)
structure Z6 (w:World) (own:Nat→Prop) (G:Geo) (m:Dk):Prop where
 lt:∀ k,own k→k < w.heap.size
 names:Zdf w m.made G.loc G.nb m.names
 on:own G.nb
 kept:Zdf w m.made G.loc G.kb m.kept
 ok:own G.kb
 nk:G.nb≠G.kb
 pend:w.ownsRow 0 154 1 G.pv m.pend.length G.pvs
 op:∀ k,G.pv.ownBlock=some k→own k
 chs:∀ (i:Nat) v c,G.pvs[i]?=some v→m.pend[i]?=some c→ChAt w own m.made G.loc v c
 inj:∀ i j,i < m.made→j < m.made→G.loc i=G.loc j→i=j
 cells:∀ i,i < m.made→Whole w (G.loc i) 108 #[.int .i64 (i:Int),G.row i,.int .i64 ((m.files i).kept:Int)]
 ol:∀ i,i < m.made→own (G.loc i)
 rows:∀ i,i < m.made→w.ownsRow 0 5 1 (G.row i) (m.files i).bytes.length ((m.files i).bytes.map byteV)
 or:∀ i k,i < m.made→(G.row i).ownBlock=some k→own k
 apart:∀ i j k,i < m.made→j < m.made→(G.row i).ownBlock=some k→(G.row j).ownBlock=some k→i=j
section
variable {w w':World} {own own':Nat→Prop} {G:Geo} {m m':Dk}
theorem Z6.nlen (h:Z6 w own G m):G.pvs.length=m.pend.length:=by have:=h.pend.1;omega
theorem Z6.stay (h:Z6 w own G m) (hs:∀ k,own k→w'.heap[k]?=w.heap[k]?) (hz:w.heap.size≤w'.heap.size):Z6 w' own G m where
 lt k hk:=Nat.lt_of_lt_of_le (h.lt k hk) hz
 names:=Ys h.names (hs _ h.on)
 on:=h.on
 kept:=Ys h.kept (hs _ h.ok)
 ok:=h.ok
 nk:=h.nk
 pend:=Ym h.pend fun k hk=>hs k (h.op k hk)
 op:=h.op
 chs i v c h1 h2:=(h.chs i v c h1 h2).stay (fun _ h=>h) (Nat.le_refl _) (fun _ _=>rfl) fun k hk _ _ _ _=>hs k hk
 inj:=h.inj
 cells i hi:=(h.cells i hi).same (hs _ (h.ol i hi))
 ol:=h.ol
 rows i hi:=Ym (h.rows i hi) fun k hk=>hs k (h.or i k hi hk)
 or:=h.or
 apart:=h.apart
theorem Z6.like (h:Z6 w own G m) (h1:m'.made=m.made) (h2:m'.names=m.names) (h3:m'.kept=m.kept) (h4:m'.pend=m.pend) (h5:m'.files=m.files):Z6 w own G m':=by
 obtain ⟨a,b,c,d,e,f,g,q,r,s,t,u,v,x,y⟩:=h
 constructor <;> first | assumption | (simp only [h1,h2,h3,h4,h5];assumption)
theorem Z6.named (h:Z6 w own G m) {l:Dir} {n:Nat} (hn:w'.ownsMap Tryz.prog 9 (ptrR m.made G.loc) G.nb n (encD l)) (hs:∀ k,k < w.heap.size→k≠G.nb→w'.heap[k]?=w.heap[k]?) (hz:w.heap.size≤w'.heap.size):Z6 w' own G { m with names:=l } where
 lt k hk:=Nat.lt_of_lt_of_le (h.lt k hk) hz
 names:=by
  have:=Zgb hn
  rw [Zcu] at this
  exact this
 on:=h.on
 kept:=Ys h.kept (hs _ (h.lt _ h.ok) fun e=>h.nk e.symm)
 ok:=h.ok
 nk:=h.nk
 pend:=Ym h.pend fun k hk=>hs k (h.lt _ (h.op k hk)) fun e=>by
  subst e
  obtain ⟨cur,h1⟩:=Z3 h.pend hk
  obtain ⟨es,cl,h2⟩:=Z4 h.names
  rw [h1] at h2;cases h2
 op:=h.op
 chs i v c h1 h2:=(h.chs i v c h1 h2).stay (fun _ h=>h) (Nat.le_refl _) (fun _ _=>rfl) fun k hk cs t e _=>hs k (h.lt k hk) fun ek=>by
  subst ek
  obtain ⟨es,cl,h2⟩:=Z4 h.names
  rw [e] at h2;cases h2
 inj:=h.inj
 cells i hi:=(h.cells i hi).same (hs _ (h.lt _ (h.ol i hi)) fun e=>by
  have h1:=h.cells i hi
  obtain ⟨es,cl,h2⟩:=Z4 h.names
  unfold Whole at h1
  rw [e,h2] at h1;cases h1)
 ol:=h.ol
 rows i hi:=Ym (h.rows i hi) fun k hk=>hs k (h.lt _ (h.or i k hi hk)) fun e=>by
  subst e
  obtain ⟨cur,h1⟩:=Z3 (h.rows i hi) hk
  obtain ⟨es,cl,h2⟩:=Z4 h.names
  rw [h1] at h2;cases h2
 or:=h.or
 apart:=h.apart
theorem Z6.keptN (h:Z6 w own G m) {l:Dir} {n:Nat} (hn:w'.ownsMap Tryz.prog 9 (ptrR m.made G.loc) G.kb n (encD l)) (hs:∀ k,k < w.heap.size→k≠G.kb→w'.heap[k]?=w.heap[k]?) (hz:w.heap.size≤w'.heap.size):Z6 w' own G { m with kept:=l } where
 lt k hk:=Nat.lt_of_lt_of_le (h.lt k hk) hz
 kept:=by
  have:=Zgb hn
  rw [Zcu] at this
  exact this
 on:=h.on
 names:=Ys h.names (hs _ (h.lt _ h.on) fun e=>h.nk e)
 ok:=h.ok
 nk:=h.nk
 pend:=Ym h.pend fun k hk=>hs k (h.lt _ (h.op k hk)) fun e=>by
  subst e
  obtain ⟨cur,h1⟩:=Z3 h.pend hk
  obtain ⟨es,cl,h2⟩:=Z4 h.kept
  rw [h1] at h2;cases h2
 op:=h.op
 chs i v c h1 h2:=(h.chs i v c h1 h2).stay (fun _ h=>h) (Nat.le_refl _) (fun _ _=>rfl) fun k hk cs t e _=>hs k (h.lt k hk) fun ek=>by
  subst ek
  obtain ⟨es,cl,h2⟩:=Z4 h.kept
  rw [e] at h2;cases h2
 inj:=h.inj
 cells i hi:=(h.cells i hi).same (hs _ (h.lt _ (h.ol i hi)) fun e=>by
  have h1:=h.cells i hi
  obtain ⟨es,cl,h2⟩:=Z4 h.kept
  unfold Whole at h1
  rw [e,h2] at h1;cases h1)
 ol:=h.ol
 rows i hi:=Ym (h.rows i hi) fun k hk=>hs k (h.lt _ (h.or i k hi hk)) fun e=>by
  subst e
  obtain ⟨cur,h1⟩:=Z3 (h.rows i hi) hk
  obtain ⟨es,cl,h2⟩:=Z4 h.kept
  rw [h1] at h2;cases h2
 or:=h.or
 apart:=h.apart
theorem Z6.wider (h:Z6 w own G m) (ho:∀ k,own k→own' k) (hl:∀ k,own' k→k < w.heap.size):Z6 w own' G m where
 lt:=hl
 names:=h.names
 on:=ho _ h.on
 kept:=h.kept
 ok:=ho _ h.ok
 nk:=h.nk
 pend:=h.pend
 op k hk:=ho _ (h.op k hk)
 chs i v c h1 h2:=(h.chs i v c h1 h2).stay ho (Nat.le_refl _) (fun _ _=>rfl) fun _ _ _ _ _ _=>rfl
 inj:=h.inj
 cells:=h.cells
 ol i hi:=ho _ (h.ol i hi)
 rows:=h.rows
 or i k hi hk:=ho _ (h.or i k hi hk)
 apart:=h.apart
theorem Z6.pends (h:Z6 w own G m) {pv:Value} {pvs:List Value} {cs:List Ch} (hp:w'.ownsRow 0 154 1 pv cs.length pvs) (ho:∀ k,pv.ownBlock=some k→own k) (hz:w.heap.size≤w'.heap.size)
 (hs:∀ k,own k→(∀ cur,w.heap[k]?≠some (.cells cur 154 (0,0)))→w'.heap[k]?=w.heap[k]?)
 (hc:∀ (i:Nat) v c,pvs[i]?=some v→cs[i]?=some c→ChAt w own m.made G.loc v c):Z6 w' own { G with pv:=pv,pvs:=pvs } { m with pend:=cs } where
 lt k hk:=Nat.lt_of_lt_of_le (h.lt k hk) hz
 names:=Ys h.names (hs _ h.on fun cur e=>by
  obtain ⟨es,cl,h2⟩:=Z4 h.names
  rw [e] at h2;cases h2)
 on:=h.on
 kept:=Ys h.kept (hs _ h.ok fun cur e=>by
  obtain ⟨es,cl,h2⟩:=Z4 h.kept
  rw [e] at h2;cases h2)
 ok:=h.ok
 nk:=h.nk
 pend:=hp
 op:=ho
 chs i v c h1 h2:=(hc i v c h1 h2).stay (fun _ h=>h) (Nat.le_refl _) (fun _ _=>rfl) fun k hk cs t e et=>hs k hk fun cur e2=>by
  rw [e] at e2
  injection e2 with e2
  injection e2 with _ e2 _
  subst e2
  rcases et with et | et <;> cases et
 inj:=h.inj
 cells i hi:=(h.cells i hi).same (hs _ (h.ol i hi) fun cur e=>by
  have h1:=h.cells i hi
  unfold Whole at h1
  rw [e] at h1
  injection h1 with h1
  injection h1 with _ h1 _
  cases h1)
 ol:=h.ol
 rows i hi:=Ym (h.rows i hi) fun k hk=>hs k (h.or i k hi hk) fun cur e=>by
  obtain ⟨cur',h1⟩:=Z3 (h.rows i hi) hk
  rw [e] at h1
  injection h1 with h1
  injection h1 with _ h1 _
  cases h1
 or:=h.or
 apart:=h.apart
theorem Z6.filed (h:Z6 w own G m) {i:Nat} (hi:i < m.made) {v:Value} {f:Fl} (hc:Whole w' (G.loc i) 108 #[.int .i64 (i:Int),v,.int .i64 (f.kept:Int)])
 (hr:w'.ownsRow 0 5 1 v f.bytes.length (f.bytes.map byteV)) (hw:∀ k,own k→own' k) (hl:∀ k,own' k→k < w'.heap.size) (ho:∀ k,v.ownBlock=some k→own' k) (hv:∀ k,v.ownBlock=some k→(G.row i).ownBlock=some k∨∀ j,j < m.made→(G.row j).ownBlock≠some k) 
 (hs:∀ k,own k→k≠G.loc i→(G.row i).ownBlock≠some k→w'.heap[k]?=w.heap[k]?):Z6 w' own' { G with row:=fun j=>if j=i then v else G.row j } (m.setFile i f):=by
 have rowT:∀ {k:Nat} {cs:Array Value} {t:TypeId},w.heap[k]?=some (.cells cs t (0,0))→t≠5→(G.row i).ownBlock≠some k:=fun hk ht e=>by
  obtain ⟨cur,h1⟩:=Z3 (h.rows i hi) e
  rw [hk] at h1
  injection h1 with h1
  injection h1 with _ h1 _
  exact ht h1
 have locT:∀ {k:Nat} {cs:Array Value} {t:TypeId},w.heap[k]?=some (.cells cs t (0,0))→t≠108→k≠G.loc i:=fun hk ht e=>by
  have h1:=h.cells i hi
  unfold Whole at h1
  rw [←e,hk] at h1
  injection h1 with h1
  injection h1 with _ h1 _
  exact ht h1
 have mapT:∀ {k:Nat},(∃ es cl,w.heap[k]?=some (.map es cl))→k≠G.loc i∧(G.row i).ownBlock≠some k:=fun ⟨es,cl,hk⟩=>by
  refine ⟨fun e=>?_,fun e=>?_⟩
  ·have h1:=h.cells i hi
   unfold Whole at h1
   rw [←e,hk] at h1;cases h1
  ·obtain ⟨cur,h1⟩:=Z3 (h.rows i hi) e
   rw [hk] at h1;cases h1
 constructor
 ·exact hl
 ·exact Ys h.names (hs _ h.on (mapT (Z4 h.names)).1 (mapT (Z4 h.names)).2)
 ·exact hw _ h.on
 ·exact Ys h.kept (hs _ h.ok (mapT (Z4 h.kept)).1 (mapT (Z4 h.kept)).2)
 ·exact hw _ h.ok
 ·exact h.nk
 ·exact Ym h.pend fun k hk=>by
   obtain ⟨cur,h1⟩:=Z3 h.pend hk
   exact hs k (h.op k hk) (locT h1 (by decide)) (rowT h1 (by decide))
 ·exact fun k hk=>hw _ (h.op k hk)
 ·exact fun j u c h1 h2=>(h.chs j u c h1 h2).stay hw (Nat.le_refl _) (fun _ _=>rfl) fun k hk cs t e et=>hs k hk (locT e (by rcases et with rfl | rfl <;> decide)) (rowT e (by rcases et with rfl | rfl <;> decide))
 ·exact h.inj
 ·intro j hj
  by_cases e:j=i
  ·subst e
   simp only [Dk.setFile,if_pos rfl]
   exact hc
  ·simp only [Dk.setFile,if_neg e]
   have h1:=h.cells j hj
   exact h1.same (hs _ (h.ol j hj) (fun e2=>e (h.inj _ _ hj hi e2)) (rowT h1 (by decide)))
 ·exact fun i hi=>hw _ (h.ol i hi)
 ·intro j hj
  by_cases e:j=i
  ·subst e
   simp only [Dk.setFile,if_pos rfl]
   exact hr
  ·simp only [Dk.setFile,if_neg e]
   refine Ym (h.rows j hj) fun k hk=>?_
   obtain ⟨cur,h1⟩:=Z3 (h.rows j hj) hk
   exact hs k (h.or j k hj hk) (locT h1 (by decide)) fun e2=>e (h.apart _ _ _ hj hi hk e2)
 ·intro j k hj hk
  by_cases e:j=i
  ·subst e
   simp only [if_pos rfl] at hk
   exact ho k hk
  ·simp only [if_neg e] at hk
   exact hw _ (h.or j k hj hk)
 ·intro a b k ha hb hka hkb
  have aux:∀ x,x < m.made→x≠i→(G.row x).ownBlock=some k→v.ownBlock=some k→False:=fun x hx hxi h1 h2=>by
   rcases hv k h2 with h3 | h3
   ·exact hxi (h.apart _ _ _ hx hi h1 h3)
   ·exact h3 x hx h1
  by_cases e:a=i
  ·by_cases e':b=i
   ·rw [e,e']
   ·simp only [if_pos e] at hka
    simp only [if_neg e'] at hkb
    exact (aux b hb e' hkb hka).elim
  ·simp only [if_neg e] at hka
   by_cases e':b=i
   ·simp only [if_pos e'] at hkb
    exact (aux a ha e hka hkb).elim
   ·simp only [if_neg e'] at hkb
    exact h.apart _ _ _ ha hb hka hkb
theorem Z6.making (h:Z6 w own G m) {b:Nat} (hb:Whole w b 108 #[.int .i64 (m.made:Int),.slice none 0 0,.int .i64 0]) (hn:¬ own b) :
 Z6 w (fun k=>own k∨k=b) { G with loc:=fun j=>if j=m.made then b else G.loc j,row:=fun j=>if j=m.made then .slice none 0 0 else G.row j } { m with files:=fun j=>if j=m.made then ⟨[],0⟩ else m.files j,made:=m.made+1 }:=by
 have hinj:∀ i j,i < m.made+1→j < m.made+1→(if i=m.made then b else G.loc i)=(if j=m.made then b else G.loc j)→i=j:=fun i j hi hj e=>by
  by_cases h1:i=m.made
  ·by_cases h2:j=m.made
   ·omega
   ·rw [if_pos h1,if_neg h2] at e
    exact (hn (e ▸ h.ol j (by omega))).elim
  ·by_cases h2:j=m.made
   ·rw [if_neg h1,if_pos h2] at e
    exact (hn (e ▸ h.ol i (by omega))).elim
   ·rw [if_neg h1,if_neg h2] at e
    exact h.inj _ _ (by omega) (by omega) e
 have hloc:∀ i,i < m.made→(if i=m.made then b else G.loc i)=G.loc i:=fun i hi=>if_neg (by omega)
 constructor
 ·rintro k (hk | rfl)
  ·exact h.lt k hk
  ·exact hb.lt
 ·exact Zh6 h.names (Zkj hinj (Nat.le_succ _) hloc)
 ·exact .inl h.on
 ·exact Zh6 h.kept (Zkj hinj (Nat.le_succ _) hloc)
 ·exact .inl h.ok
 ·exact h.nk
 ·exact h.pend
 ·exact fun k hk=>.inl (h.op k hk)
 ·exact fun i v c h1 h2=>(h.chs i v c h1 h2).stay (fun _ h=>.inl h) (Nat.le_succ _) hloc fun _ _ _ _ _ _=>rfl
 ·exact hinj
 ·intro i hi
  by_cases e:i=m.made
  ·simp only [if_pos e]
   subst e
   exact hb
  ·simp only [if_neg e]
   exact h.cells i (by have:i < m.made+1:=hi;omega)
 ·intro i hi
  by_cases e:i=m.made
  ·simp only [if_pos e]
   exact .inr trivial
  ·simp only [if_neg e]
   exact .inl (h.ol i (by have:i < m.made+1:=hi;omega))
 ·intro i hi
  by_cases e:i=m.made
  ·simp only [if_pos e]
   exact ⟨rfl,.inl ⟨rfl,rfl⟩⟩
  ·simp only [if_neg e]
   exact h.rows i (by have:i < m.made+1:=hi;omega)
 ·intro i k hi hk
  by_cases e:i=m.made
  ·simp only [if_pos e] at hk
   cases hk
  ·simp only [if_neg e] at hk
   exact .inl (h.or i k (by have:i < m.made+1:=hi;omega) hk)
 ·intro i j k hi hj h1 h2
  by_cases e:i=m.made
  ·simp only [if_pos e] at h1
   cases h1
  ·by_cases e':j=m.made
   ·simp only [if_pos e'] at h2
    cases h2
   ·simp only [if_neg e] at h1
    simp only [if_neg e'] at h2
    exact h.apart _ _ _ (by have:i < m.made+1:=hi;omega) (by have:j < m.made+1:=hj;omega) h1 h2
end
def Jm (m:Dk) (nb kb:Nat) (pv:Value):Array Value :=
 #[.int .i64 m.most,.int .i64 (m.made:Int),.int .i64 m.used,.map (some nb),.map (some kb),pv,.int .i64 m.done,.int .i64 m.fail,.int .i64 m.cut,.bool m.down]
structure DkAt (w:World) (d:Nat) (own:Nat→Prop) (G:Geo) (m:Dk):Prop where
 rest:Z6 w own G m
 top:Whole w d 89 (Jm m G.nb G.kb G.pv)
 free:¬ own d
def DkTo (w:World) (d:Nat) (own:Nat→Prop) (w':World) (m':Dk):Prop :=
 ∃ own' G',DkAt w' d own' G' m'∧Zc (fun k=>k=d∨own k) w w'∧∀ k,own' k→own k∨w.heap.size≤k
section
variable {w w' w'':World} {d:Nat} {own:Nat→Prop} {G:Geo} {m m':Dk}
theorem DkAt.stay (h:DkAt w d own G m) (hs:∀ k,k=d∨own k→w'.heap[k]?=w.heap[k]?) (hz:w.heap.size≤w'.heap.size):DkAt w' d own G m :=
 ⟨h.rest.stay (fun k hk=>hs k (.inr hk)) hz,h.top.same (hs d (.inl rfl)),h.free⟩
theorem DkAt.lt (h:DkAt w d own G m) {k:Nat} (hk:k=d∨own k):k < w.heap.size:=by
 rcases hk with rfl | hk
 ·exact h.top.lt
 ·exact h.rest.lt k hk
theorem DkAt.grow (h:DkAt w d own G m) (hg:Grows w w'):DkAt w' d own G m:=h.stay (fun k hk=>hg.block k (h.lt hk)) hg.size
theorem DkAt.spare (h:DkAt w d own G m) {oth:Nat→Prop} (hs:Zc oth w w') (hn:∀ k,k=d∨own k→¬ oth k):DkAt w' d own G m:=h.stay (fun k hk=>hs.same k (h.lt hk) (hn k hk)) hs.size
theorem DkAt.retop (h:DkAt w d own G m) (ht:Whole w' d 89 (Jm m' G.nb G.kb G.pv)) (hs:Zc (fun k=>k=d) w w')
 (h1:m'.made=m.made) (h2:m'.names=m.names) (h3:m'.kept=m.kept) (h4:m'.pend=m.pend) (h5:m'.files=m.files):DkAt w' d own G m' :=
 ⟨(h.rest.stay (fun k hk=>hs.same k (h.rest.lt k hk) fun e=>h.free (e ▸ hk)) hs.size).like h1 h2 h3 h4 h5,ht,h.free⟩
end
end Go.Proofs.YtkelafkbmnjpeaaGreat
