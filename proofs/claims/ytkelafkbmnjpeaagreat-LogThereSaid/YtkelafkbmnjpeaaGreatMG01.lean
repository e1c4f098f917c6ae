/-
  Texts that the statements lean on, one behind the other.
-/
import Derived.Test.YtkelafkbmnjpeaaGreatMG00
import Derived.WalkKit
import Derived.Maps.AppendAt
import Derived.Laws.AppendOwnNone
import Derived.Test.YtkelafkbmnjpeaaGreatRows
import Derived.Laws.MakeOwn
import Derived.KernelRfl
import Derived.Laws.IdiomStrings
import Derived.Lib.BufferRead
set_option linter.unusedSimpArgs false
set_option linter.unusedVariables false
namespace Go.Proofs.YtkelafkbmnjpeaaGreat
open Go.RowKit
structure Fact (E:World→World→Prop) where
 α:Type
 x0:α
 val:α→Value
 R:α→World→Prop
 stays:∀ x w w',R x w→E w w'→R x w'
abbrev Known:=List (Option Tmp×(World→Prop))
def Known.all (ks:Known) (w:World):Prop:=∀ k∈ks,k.2 w
def Known.for (ks:Known) (ls:List Tmp) (w:World):Prop:=∀ k∈ks,(∃ d,k.1=some d∧d∈ls)→k.2 w
theorem Known.all_for {ks:Known} {ls:List Tmp} {w:World} (h:ks.all w):ks.for ls w:=fun k hk _=>h k hk
section
variable {P:Program} {ops:Array Oper} {md:Region.Mode} {E:World→World→Prop} {W:World}
def Zbn (P:Program) (F:Fact E) (w:World):Result Next→Prop
 | .ok (.value u) w'=>E w w'∧∃ x,u=F.val x∧F.R x w'
 | .ok .skip w'=>E w w'∧∃ x,undef=F.val x∧F.R x w'
 | .ok (.enter f args) w'=>Calls P f args w' fun e w''=>E w w''∧∃ x,e=.returned (F.val x)∧F.R x w''
 | _=>False
def gives (P:Program) (F:Fact E) (o:Oper) (ρ:Operand→Value) (w:World):Prop:=Zbn P F w ((execOp ρ o).run P w)
def fStep (P:Program) (ops:Array Oper) (E:World→World→Prop) (W:World) (F:Fact E) (o:Oper) (K:Known→Act→Prop) (ks:Known) (a:Act):Prop :=
 if Region.wanted o (yielded ops a.tmps) then (∀ w,E W w→ks.for (o.looksAt ops) w→gives P F o a.eval w)∧∀ x,K ((o.dst,F.R x) :: ks) (a.put o.dst (F.val x)) else K ks (a.put o.dst undef)
def fOp (P:Program) (ops:Array Oper) (E:World→World→Prop) (W:World) (Fs:Nat→Fact E) (i:Nat) (K:Known→Act→Prop) (ks:Known) (a:Act):Prop :=
 match ops[i]? with
 | none=>K ks a
 | some o=>fStep P ops E W (Fs i) o K ks a
theorem Zgn {F:Fact E} {o:Oper} {K K':Known→Act→Prop} {ks:Known} {a:Act} (h:∀ ks a,K ks a→K' ks a) (hh:fStep P ops E W F o K ks a):fStep P ops E W F o K' ks a:=by
 unfold fStep at *
 split
 ·rename_i hw;simp only [hw,if_true] at hh;exact ⟨hh.1,fun x=>h _ _ (hh.2 x)⟩
 ·rename_i hw;simp only [hw] at hh;exact h _ _ hh
def wpF (P:Program) (ops:Array Oper) (E:World→World→Prop) (W:World) (Q:Act→World→Prop):List Oper→List (Fact E)→Known→Act→Prop
 | [],_,ks,a=>∀ w,E W w→ks.all w→Q a w
 | _ :: _,[],_,_=>False
 | o :: rest,F :: Fs,ks,a=>fStep P ops E W F o (wpF P ops E W Q rest Fs) ks a
def Zbo (P:Program) (md:Region.Mode) (ops:Array Oper) (E:World→World→Prop) (W:World) (Fs:Nat→Fact E) (Q:Act→World→Prop):Nat→Array Bool→Known→Act→Prop
 | 0,listed,ks,a=>Region.ready md ops listed=[]∧∀ w,E W w→ks.all w→Q a w
 | fuel+1,listed,ks,a =>
   (Region.ready md ops listed=[]→∀ w,E W w→ks.all w→Q a w) ∧
   ∀ i∈Region.ready md ops listed,fOp P ops E W Fs i (Zbo P md ops E W Fs Q fuel (listed.setIfInBounds i true)) ks a
theorem Za0 {Fs:Nat→Fact E} {Q:Act→World→Prop}:∀ (fuel:Nat) (listed:Array Bool) (ks ks':Known) (a:Act),(∀ k∈ks,k∈ks')→Zbo P md ops E W Fs Q fuel listed ks a→Zbo P md ops E W Fs Q fuel listed ks' a
 | 0,_,_,_,_,hk,h=>⟨h.1,fun w hw ha=>h.2 w hw fun k hk'=>ha k (hk k hk')⟩
 | fuel+1,listed,ks,ks',a,hk,h=>by
   refine ⟨fun h0 w hw ha=>h.1 h0 w hw fun k hk'=>ha k (hk k hk'),fun i hi=>?_⟩
   have h1:=h.2 i hi
   unfold fOp at *
   split
   ·rename_i ho;simp only [ho] at h1;exact Za0 fuel _ ks ks' a hk h1
   ·rename_i o ho
    simp only [ho] at h1
    unfold fStep at *
    split
    ·rename_i hw
     simp only [hw,if_true] at h1
     refine ⟨fun w hw' hf=>h1.1 w hw' fun k hk'=>hf k (hk k hk'),fun x=>Za0 fuel _ _ _ _ (fun k hk'=>?_) (h1.2 x)⟩
     rcases List.mem_cons.1 hk' with rfl | hk'
     ·exact List.mem_cons_self
     ·exact List.mem_cons_of_mem _ (hk k hk')
    ·rename_i hw
     simp only [hw] at h1
     exact Za0 fuel _ ks ks' _ hk h1
theorem Zcm {ks:Known} {d:Option Tmp} {R:World→Prop} {ls:List Tmp} {w:World} (hd:∀ t,d=some t→t∉ls) (h:ks.for ls w):Known.for ((d,R) :: ks) ls w:=fun k hk hd'=>by
 rcases List.mem_cons.1 hk with rfl | hk
 ·obtain ⟨t,h1,h2⟩:=hd'
  exact absurd h2 (hd t h1)
 ·exact h k hk hd'
theorem Zdm {ks:Known} {p:Option Tmp×(World→Prop)} {ls:List Tmp} {w:World} (h:Known.for (p :: ks) ls w):ks.for ls w:=fun k hk hd=>h k (List.mem_cons_of_mem _ hk) hd
theorem Zdn (p q:Option Tmp×(World→Prop)) (ks:Known):∀ k∈p :: q :: ks,k∈q :: p :: ks:=fun k hk=>by
 simp only [List.mem_cons] at *
 rcases hk with h | h | h
 ·exact .inr (.inl h)
 ·exact .inl h
 ·exact .inr (.inr h)
theorem Zjb {Fs:Nat→Fact E} {Q:Act→World→Prop} {i:Nat} {oi:Oper} (hi:ops[i]?=some oi) (hsel:∀ (j:Nat) (o:Oper) cs b,ops[j]?=some o→o.op≠.select cs b) :
 ∀ (fuel:Nat) (listed:Array Bool) (ks:Known) (a:Act),
  (∀ j oj,ops[j]?=some oj→j≠i→listed.getD j true=false→(∀ e∈oj.after,Region.binds md e=true→e.on≠i)→oi.apart ops oj=true) →
  i∈Region.ready md ops listed→fStep P ops E W (Fs i) oi (Zbo P md ops E W Fs Q fuel (listed.setIfInBounds i true)) ks a→Zbo P md ops E W Fs Q (fuel+1) listed ks a:=by
 intro fuel
 induction fuel with
 | zero =>
   intro listed ks a _ hr H
   refine ⟨fun h=>(by rw [h] at hr;cases hr),fun j hj=>?_⟩
   by_cases hji:j=i
   ·subst hji;unfold fOp;simp only [hi];exact H
   ·have:=ready_mono hj hji
    have hnil:Region.ready md ops (listed.setIfInBounds i true)=[]:=by
     unfold fStep at H
     split at H
     ·exact (H.2 (Fs i).x0).1
     ·exact H.1
    rw [hnil] at this
    cases this
 | succ fuel ih =>
   intro listed ks a hfree hr H
   refine ⟨fun h=>(by rw [h] at hr;cases hr),fun j hj=>?_⟩
   by_cases hji:j=i
   ·subst hji;unfold fOp;simp only [hi];exact H
   ·have hjr:=ready_mono hj hji
    obtain ⟨hjun,oj,hoj,hall⟩:=mem_ready.1 hj
    have hnot:∀ e∈oj.after,Region.binds md e=true→e.on≠i:=fun e he hb heq=>by
     have h1:=hall e he hb
     have h0:=(mem_ready.1 hr).1
     rw [heq] at h1
     rcases Nat.lt_or_ge i listed.size with h' | h'
     ·simp [h'] at h0 h1;rw [h0] at h1;cases h1
     ·simp [Array.getElem?_eq_none h'] at h1
    have hap:=hfree j oj hoj hji hjun hnot
    obtain ⟨p1,p2,p3⟩:=Oper.apart_spec hap
    have hsi:=fun cs b=>hsel i oi cs b hi
    have hsj:=fun cs b=>hsel j oj cs b hoj
    have hfree':∀ k ok,ops[k]?=some ok→k≠i→(listed.setIfInBounds j true).getD k true=false →
     (∀ e∈ok.after,Region.binds md e=true→e.on≠i)→oi.apart ops ok=true:=fun k ok hk hki hun hno=>by
     refine hfree k ok hk hki ?_ hno
     by_cases hjk:j=k
     ·subst hjk;exact hjun
     ·rw [getD_set_ne true hjk] at hun;exact hun
    have hri:=ready_mono hr (Ne.symm hji)
    unfold fOp
    simp only [hoj]
    -- what is done behind j, i being done first
    by_cases hwi:Region.wanted oi (yielded ops a.tmps)=true
    ·unfold fStep at H
     simp only [hwi,if_true] at H
     obtain ⟨hgi,hK⟩:=H
     have hJ:∀ x,fStep P ops E W (Fs j) oj (Zbo P md ops E W Fs Q fuel ((listed.setIfInBounds i true).setIfInBounds j true)) ((oi.dst,(Fs i).R x) :: ks) (a.put oi.dst ((Fs i).val x)):=fun x=>by
      have:=(hK x).2 j hjr
      unfold fOp at this
      simp only [hoj] at this
      exact this
     unfold fStep
     by_cases hwj:Region.wanted oj (yielded ops a.tmps)=true
     ·simp only [hwj,if_true]
      have hJ':∀ x,(∀ w,E W w→Known.for ((oi.dst,(Fs i).R x) :: ks) (oj.looksAt ops) w→gives P (Fs j) oj (a.put oi.dst ((Fs i).val x)).eval w) ∧
       ∀ y,Zbo P md ops E W Fs Q fuel ((listed.setIfInBounds i true).setIfInBounds j true) ((oj.dst,(Fs j).R y) :: (oi.dst,(Fs i).R x) :: ks) ((a.put oi.dst ((Fs i).val x)).put oj.dst ((Fs j).val y)):=fun x=>by
       have:=hJ x
       unfold fStep at this
       rw [wanted_put oj a oi.dst _ p1] at this
       simp only [hwj,if_true] at this
       exact this
      refine ⟨fun w hw hf=>?_,fun y=>ih _ _ _ hfree' hri ?_⟩
      ·have:=(hJ' (Fs i).x0).1 w hw (Zcm p1 hf)
       unfold gives at *
       rwa [execOp_put oj hsj a oi.dst _ p1] at this
      ·unfold fStep
       rw [wanted_put oi a oj.dst _ p3]
       simp only [hwi,if_true]
       refine ⟨fun w hw hf=>?_,fun x=>?_⟩
       ·have:=hgi w hw (Zdm hf)
        unfold gives at *
        rwa [execOp_put oi hsi a oj.dst _ p3]
       ·have:=(hJ' x).2 y
        rw [Array.setIfInBounds_comm _ _ hji,←Act.put_comm a _ _ p2]
        exact Za0 _ _ _ _ _ (Zdn _ _ _) this
     ·simp only [hwj]
      have hJ':∀ x,Zbo P md ops E W Fs Q fuel ((listed.setIfInBounds i true).setIfInBounds j true) ((oi.dst,(Fs i).R x) :: ks) ((a.put oi.dst ((Fs i).val x)).put oj.dst undef):=fun x=>by
       have:=hJ x
       unfold fStep at this
       rw [wanted_put oj a oi.dst _ p1] at this
       simp only [hwj] at this
       exact this
      refine ih _ _ _ hfree' hri ?_
      unfold fStep
      rw [wanted_put oi a oj.dst _ p3]
      simp only [hwi,if_true]
      refine ⟨fun w hw hf=>?_,fun x=>?_⟩
      ·have:=hgi w hw hf
       unfold gives at *
       rwa [execOp_put oi hsi a oj.dst _ p3]
      ·rw [Array.setIfInBounds_comm _ _ hji,←Act.put_comm a _ _ p2]
       exact hJ' x
    ·unfold fStep at H
     simp only [hwi] at H
     have hJ:fStep P ops E W (Fs j) oj (Zbo P md ops E W Fs Q fuel ((listed.setIfInBounds i true).setIfInBounds j true)) ks (a.put oi.dst undef):=by
      have:=H.2 j hjr
      unfold fOp at this
      simp only [hoj] at this
      exact this
     unfold fStep at *
     rw [wanted_put oj a oi.dst _ p1] at hJ
     by_cases hwj:Region.wanted oj (yielded ops a.tmps)=true
     ·simp only [hwj,if_true] at *
      refine ⟨fun w hw hf=>?_,fun y=>ih _ _ _ hfree' hri ?_⟩
      ·have:=hJ.1 w hw hf
       unfold gives at *
       rwa [execOp_put oj hsj a oi.dst _ p1] at this
      ·rw [wanted_put oi a oj.dst _ p3]
       simp only [hwi]
       have:=hJ.2 y
       rw [Array.setIfInBounds_comm _ _ hji,←Act.put_comm a _ _ p2]
       exact this
     ·simp only [hwj] at *
      refine ih _ _ _ hfree' hri ?_
      rw [wanted_put oi a oj.dst _ p3]
      simp only [hwi]
      rw [Array.setIfInBounds_comm _ _ hji,←Act.put_comm a _ _ p2]
      exact hJ
theorem Zgo {Fs:Nat→Fact E} {Q:Act→World→Prop} (hs:Region.noSelect ops=true):∀ (l:List Oper) (k:Nat) (fs:List (Fact E)) (listed:Array Bool) (ks:Known) (a:Act),(∀ j,l[j]?=ops[k+j]?) →
 (∀ j F,fs[j]?=some F→Fs (k+j)=F)→Region.lexFrom md ops l.length k listed=true→wpF P ops E W Q l fs ks a→Zbo P md ops E W Fs Q l.length listed ks a
 | [],_,_,_,_,_,_,_,hB,h=>⟨by simpa [Region.lexFrom] using hB,h⟩
 | o :: l,k,[],listed,ks,a,hl,hF,hB,h=>h.elim
 | o :: l,k,F :: fs,listed,ks,a,hl,hF,hB,h=>by
   have h0:ops[k]?=some o:=by simpa using (hl 0).symm
   have hF0:Fs k=F:=by simpa using hF 0 F rfl
   simp only [List.length_cons,Region.lexFrom,Bool.and_eq_true] at hB
   obtain ⟨⟨hr,hf⟩,hB'⟩:=hB
   refine Zjb h0 (Region.noSelect_spec hs) l.length listed ks a (Region.free_spec h0 hf) (by simpa using hr) ?_
   rw [hF0]
   exact Zgn (fun ks a h=>Zgo hs l (k+1) fs _ ks a (fun j=>by have:=hl (j+1);simpa [Nat.add_assoc,Nat.add_comm 1 j] using this)
    (fun j F' hj=>by have:=hF (j+1) F' (by simpa using hj);simpa [Nat.add_assoc,Nat.add_comm 1 j] using this) hB' h) h
theorem Ja {Fs:Nat→Fact E} {Q:Act→World→Prop} {Q':Exit→Act→World→Prop} (ht:∀ a b c,E a b→E b c→E a c) (hQ:∀ a w,Q a w→Q' .normal a w) :
 ∀ (fuel:Nat) (listed:Array Bool) (ks:Known) (a:Act) (w:World),E W w→ks.all w→(∀ k∈ks,∀ w w',k.2 w→E w w'→k.2 w')→Zbo P md ops E W Fs Q fuel listed ks a→wpAny P md ops Q' fuel listed a w
 | 0,_,ks,_,w,hw,ha,_,h=>⟨h.1,hQ _ _ (h.2 w hw ha)⟩
 | fuel+1,listed,ks,a,w,hw,ha,hst,h=>by
   refine ⟨fun h0=>hQ _ _ (h.1 h0 w hw ha),fun i hi=>?_⟩
   have h1:=h.2 i hi
   unfold fOp at h1
   unfold wpOp
   split
   ·rename_i ho;simp only [ho] at h1;exact Ja ht hQ fuel _ ks a w hw ha hst h1
   ·rename_i o ho
    simp only [ho] at h1
    unfold fStep at h1
    split
    ·rename_i hwd
     simp only [hwd,if_true] at h1
     obtain ⟨hg,hK⟩:=h1
     have hg':=hg w hw (Known.all_for ha)
     have go:∀ x w',E w w'→(Fs i).R x w'→wpAny P md ops Q' fuel (listed.setIfInBounds i true) (a.put o.dst ((Fs i).val x)) w':=fun x w' he hR =>
      Ja ht hQ fuel _ _ _ w' (ht _ _ _ hw he) (fun k hk=>by
       rcases List.mem_cons.1 hk with rfl | hk
       ·exact hR
       ·exact hst k hk _ _ (ha k hk) he) (fun k hk=>by
       rcases List.mem_cons.1 hk with rfl | hk
       ·exact (Fs i).stays x
       ·exact hst k hk) (hK x)
     left
     unfold gives at hg'
     unfold Oper.wp
     generalize (execOp a.eval o).run P w=r at *
     cases r with
     | ok n w' =>
       cases n <;> simp only [Zbn] at hg' <;> simp only [Oper.upon]
       case value u=>obtain ⟨he,x,rfl,hR⟩:=hg';exact go x w' he hR
       case skip=>obtain ⟨he,x,hx,hR⟩:=hg';rw [hx];exact go x w' he hR
       case enter f args=>exact hg'.mono fun e w'' ⟨he,x,hx,hR⟩=>by subst hx;exact go x w'' he hR
     | halt x w'=>simp only [Zbn] at hg'
    ·rename_i hwd
     simp only [hwd] at h1
     exact Ja ht hQ fuel _ ks _ w hw ha hst h1
theorem Zg {id:Nat} {Q:Exit→Act→World→Prop} {a:Act} {w:World} {l:List Oper} (fs:List (Fact E)) (hm:P.follows .mixedOrders=true) (hB:Region.lexB .any l.toArray=true)
 (ht:∀ a b c,E a b→E b c→E a c) (hd:E w { w with drawn:=w.drawn+1 }) (h:wpF P l.toArray E w (fun a' w'=>Q .normal a' w') l fs [] a):(Code.region id l.toArray true).wp P Q a w:=by
 simp only [Region.lexB,Bool.and_eq_true] at hB
 refine wp_region_any hm ?_
 have hlex:=Zgo (P:=P) (md:=.any) (ops:=l.toArray) (E:=E) (W:=w) (Fs:=fun i=>(fs[i]?).getD ⟨Unit,(),fun _=>undef,fun _ _=>True,fun _ _ _ _ _=>trivial⟩) (Q:=fun a' w'=>Q .normal a' w') hB.1 l 0 fs (Array.replicate l.toArray.size false) [] a
  (by simp) (fun j F hj=>by simp only [Nat.zero_add,hj,Option.getD_some]) (by simpa using hB.2) h
 have:=Ja (ks:=[]) (Q:=fun a' w'=>Q .normal a' w') (Q':=Q) ht (fun _ _ h=>h) _ _ _ { w with drawn:=w.drawn+1 } hd (fun k hk=>by cases hk) (fun k hk=>by cases hk) hlex
 simpa using this
end
section
variable {P:Program} {ops:Array Oper} {rest:List Oper} {o:Oper} {a:Act} {w:World} {Q:Exit→Act→World→Prop}
theorem Jb {base:Nat} {t ty e:TypeId} {i:TypeInfo} {z:Value} {bytes:Nat} (ht:P.underlying t=some (.slice e)) (hi:P.info? e=some i) (hz:i.zero=some z)
 (hsize:i.size=1) (hby:i.bytes=bytes) (hzs:z.cells.size=1) {v:Value} {n:Nat} {xs:List Value} (hown:w.ownsRow base e 1 v n xs)
 {B:Nat} {A:Option Addr} {m c:Nat} {news:List Value} (hr:Row w B A m news) (hbare:A=none→c=0) (h1:∀ u∈news,u.oneCell'=true)
 (h63:n+m≤maxLen) (hbytes:(n+m)*bytes≤140737488355328) (hbase:base≤w.heap.size) :
 ∃ v' w',(Builtin.append_ #[t,t] ty #[v,.slice A m c]).run P w=.ok v' w'∧w'.ownsRow base e 1 v' (n+m) (xs++news)∧w.grownBy w' v.ownBlock∧(v'.ownBlock=v.ownBlock∨v'.ownBlock=some w.heap.size):=by
 rcases A with _ | ad
 ·have hnil:news=[]:=by
   rcases news with _ | ⟨u,us⟩
   ·rfl
   ·obtain ⟨ad,he,_⟩:=hr.spot 0 u rfl
    cases he
  subst hnil
  have hm:m=0:=by have:=hr.len;simpa using this.symm
  have hc:=hbare rfl
  subst hm hc
  exact ⟨v,w,run_append_owned_none (P:=P) (w:=w) base t ty e i 1 ht hi v n xs hown,by simpa using hown,World.grownBy.refl w _,.inl rfl⟩
 ·obtain ⟨v',w',hrun,h2,h3,_,h5⟩:=run_append_own_at (P:=P) (w:=w) base t ty e i z 1 bytes ht hi hz hsize hby hzs (by omega) v n xs hown ad m c news (by rw [hr.len];omega)
   (fun j u hu=>by obtain ⟨ad',he,_,hc⟩:=hr.spot j u hu;injection he with he;subst he;exact hc) h1 h63 hbytes hbase
  exact ⟨v',w',hrun,h2,h3,h5⟩
theorem Zp {base:Nat} {e:TypeId} {v:Value} {n:Nat} {xs:List Value} (h:w.ownsRow base e 1 v n xs):∃ A c,v=.slice A n c∧(A=none→c=0):=by
 rcases h.2 with ⟨rfl,rfl⟩ | ⟨g,cap,_,rfl,_⟩
 ·exact ⟨none,0,rfl,fun _=>rfl⟩
 ·exact ⟨_,cap,rfl,fun h=>by cases h⟩
theorem Z9 (hgd:o.guard=none) (s x:Operand) (t:TypeId) (ho:o.op=.call { callee:=.builtin .append,args:=#[s,x],argTypes:=#[t,t] })
 {base:Nat} {e:TypeId} {i:TypeInfo} {z:Value} {bytes:Nat} (ht:P.underlying t=some (.slice e)) (hi:P.info? e=some i) (hz:i.zero=some z)
 (hsize:i.size=1) (hby:i.bytes=bytes) (hzs:z.cells.size=1) {v:Value} {n:Nat} {xs:List Value} (hs:a.eval s=v) (hown:w.ownsRow base e 1 v n xs)
 {B:Nat} {A:Option Addr} {m c:Nat} {news:List Value} (hx:a.eval x=.slice A m c) (hr:Row w B A m news) (hbare:A=none→c=0) (h1:∀ u∈news,u.oneCell'=true)
 (k:Nat) (hk:n+m=k) (ys:List Value) (hys:xs++news=ys) (h63:k≤maxLen) (hbytes:k*bytes≤140737488355328) (hbase:base≤w.heap.size)
 (h:∀ A' c' w',w'.ownsRow base e 1 (.slice A' k c') k ys→(A'=none→c'=0)→w.grownBy w' v.ownBlock→((Value.slice A' k c').ownBlock=v.ownBlock∨(Value.slice A' k c').ownBlock=some w.heap.size)→wpList P ops Q rest (a.put o.dst (.slice A' k c')) w'):wpList P ops Q (o :: rest) a w:=by
 subst hk hys
 refine wpList_plain hgd fun K hK=>?_
 obtain ⟨v',w',hrun,h2,h3,h4⟩:=Jb (P:=P) (ty:=o.type) ht hi hz hsize hby hzs hown hr hbare h1 h63 hbytes hbase
 obtain ⟨A',c',rfl,hb'⟩:=Zp h2
 unfold Oper.wp execOp
 simp only [ho,resolve,invoke,builtin,Sem.run_bind,Sem.run_pure,Result.andThen_ok,List.map_toArray,List.map_cons,List.map_nil,hs,hx,hrun]
 exact hK _ _ (h A' c' w' h2 hb' h3 h4)
end
theorem Zjc {B:Nat} {w0 w w':World} {v:Value} (hb:Below B w0 w) (hg:w.grownBy w' v.ownBlock) (hB:B≤w.heap.size) (hv:∀ g,v.ownBlock=some g→B≤g):Below B w0 w' :=
 hb.grown hg hB hv
theorem Y2 (bs:List UInt8):∀ u∈bs.map byteV,u.oneCell'=true:=by
 intro u hu
 obtain ⟨b,_,rfl⟩:=List.mem_map.1 hu
 rfl
structure Sl (w:World) (A:Option Addr) (n c:Nat) (bs:List UInt8):Prop where
 bytes:Bytes w w.heap.size A n bs
 cap:n≤c
 bare:A=none→c=0
section
variable {w w':World} {A:Option Addr} {n c:Nat} {bs:List UInt8}
theorem Sl.len (h:Sl w A n c bs):bs.length=n:=Bytes.len h.bytes
theorem Sl.grow (hg:Grows w w') (h:Sl w A n c bs):Sl w' A n c bs:=⟨hg.bytes h.bytes,h.cap,h.bare⟩
theorem Sl.nil (w:World):Sl w none 0 0 []:=⟨Bytes.nil _ _ _,Nat.le_refl _,fun _=>rfl⟩
theorem Sl.alloc (h:Sl w A n c bs) (o:Obj):Sl (w.alloc o) A n c bs:=h.grow ((Below.refl _ _).alloc (Nat.le_refl _) o)
theorem Sl.owned {base:Nat} {e:TypeId} (h:w.ownsRow base e 1 (.slice A n c) n (bs.map byteV)):Sl w A n c bs:=by
 refine ⟨Row.owned h,?_,fun hA=>?_⟩
 ·rcases h.2 with ⟨h1,h2⟩ | ⟨g,cap,_,h1,_,_,h2,_⟩
  ·omega
  ·injection h1 with _ _ h1;omega
 ·rcases h.2 with ⟨h1,h2⟩ | ⟨g,cap,_,h1,_⟩
  ·injection h1
  ·injection h1 with h1 _ _;rw [hA] at h1;cases h1
theorem Sl.first (h:Sl w A n c bs) {k:Nat} (hk:k≤n):Sl w A k c (bs.take k):=⟨h.bytes.first hk,Nat.le_trans hk h.cap,h.bare⟩
end
theorem Sl.part {w:World} {ad:Addr} {n c k m:Nat} {bs:List UInt8} (h:Sl w (some ad) n c bs) (hk:k≤m) (hm:m≤n) (hc:¬ c=k):Sl w (some (ad.add k)) (m - k) (c - k) ((bs.take m).drop k):=by
 have h1:=h.first hm
 refine ⟨?_,by have:=h.cap;omega,fun h=>by cases h⟩
 have h2:=Row.behind (k:=k) (cap:=c) h1.bytes hk h1.cap
 rw [if_neg hc] at h2
 unfold Bytes
 rw [List.map_drop]
 exact h2
theorem Zd {w w':World} {base:Nat} {e:TypeId} {size:Nat} {v:Value} {n:Nat} {xs:List Value} (h:w.ownsRow base e size v n xs) (hg:Grows w w'):w'.ownsRow base e size v n xs:=by
 obtain ⟨h1,h2⟩:=h
 refine ⟨h1,?_⟩
 rcases h2 with h2 | ⟨g,cap,cur,hv,hb,hh,r⟩
 ·exact .inl h2
 ·exact .inr ⟨g,cap,cur,hv,hb,by rw [hg.block g (Array.getElem?_eq_some_iff.1 hh).1];exact hh,r⟩
theorem Zh {w:World} {base base':Nat} {e:TypeId} {size:Nat} {v:Value} {n:Nat} {xs:List Value} (h:w.ownsRow base e size v n xs) (hb:base'≤base):w.ownsRow base' e size v n xs:=by
 obtain ⟨h1,h2⟩:=h
 refine ⟨h1,?_⟩
 rcases h2 with h2 | ⟨g,cap,cur,hv,hg,r⟩
 ·exact .inl h2
 ·exact .inr ⟨g,cap,cur,hv,Nat.le_trans hb hg,r⟩
theorem infoU8:(Tryz.prog.info? 5).map (fun i=>(i.zero,i.size,i.bytes))=some (some (.int .u8 0),1,1):=by kernel_rfl
section
variable {P:Program} {ops:Array Oper} {rest:List Oper} {o:Oper} {a:Act} {w:World} {Q:Exit→Act→World→Prop}
end
section
variable {ops:Array Oper} {rest:List Oper} {o:Oper} {a:Act} {w:World} {Q:Exit→Act→World→Prop}
end
theorem Zm8 (w:World):(w.alloc (.cells #[] 5)).ownsRow w.heap.size 5 1 (.slice (some ⟨w.heap.size,0,none⟩) 0 0) 0 (([]:List UInt8).map byteV):=World.ownsRow_lit w #[] 0 (Nat.le_refl _) (Nat.zero_le _) rfl
theorem Zb (w:World) (o:Obj):Grows w (w.alloc o):=(Below.refl _ _).alloc (Nat.le_refl _) o
theorem Zcx (w:World) (o:Obj):w.heap.size≤(w.alloc o).heap.size:=by simp
def Held (w:World) (g:Nat) (cs:Array Value):Prop:=∃ t fr,w.heap[g]?=some (.cells cs t fr)
theorem Held.lt {w:World} {g:Nat} {cs:Array Value} (h:Held w g cs):g < w.heap.size:=by
 obtain ⟨t,fr,h⟩:=h
 exact (Array.getElem?_eq_some_iff.1 h).1
theorem Whole.same {w w':World} {g t:Nat} {cs:Array Value} (h:Whole w g t cs) (e:w'.heap[g]?=w.heap[g]?):Whole w' g t cs:=by
 unfold Whole
 rw [e]
 exact h
theorem Held.bytes {w:World} {g n:Nat} {cs:Array Value} (h:Held w g cs) (bs:List UInt8) (he:cs=(bs.map byteV).toArray) (hn:bs.length=n):Bytes w w.heap.size (some ⟨g,0,none⟩) n bs:=by
 have hl:=h.lt
 obtain ⟨t,fr,h⟩:=h
 refine ⟨by simp [hn],fun k v hv=>⟨⟨g,0,none⟩,rfl,hl,?_⟩⟩
 rw [show (⟨g,0,none⟩:Addr).add k=⟨g,k,none⟩ by unfold Addr.add;split <;> simp_all,cell_of_row w g k cs t fr h,he]
 simpa using hv
theorem Held.sl {w:World} {g n:Nat} {cs:Array Value} (h:Held w g cs) (bs:List UInt8) (he:cs=(bs.map byteV).toArray) (hn:bs.length=n):Sl w (some ⟨g,0,none⟩) n n bs :=
 ⟨h.bytes bs he hn,Nat.le_refl _,fun h=>by cases h⟩
theorem Whole.sl {w:World} {g n t:Nat} {cs:Array Value} (h:Whole w g t cs) (bs:List UInt8) (he:cs=(bs.map byteV).toArray) (hn:bs.length=n):Sl w (some ⟨g,0,none⟩) n n bs :=
 Held.sl ⟨t,_,h⟩ bs he hn
theorem Z4 {w:World} {A:Option Addr} {n c:Nat} {bs:List UInt8} (h:Sl w A n c bs):(convert 37 9 (.slice A n c)).run Tryz.prog w=.ok (.string ⟨bs.toArray⟩) w:=by
 have hl:=h.len
 subst hl
 cases A with
 | none =>
   have hc:=h.bare rfl
   have hn:=h.cap
   have hb:bs=[]:=List.eq_nil_of_length_eq_zero (by omega)
   subst hb
   exact Lib.run_convert_nil_bytes w 37 9 _ c Tryz.underlying37 Tryz.underlying5 Tryz.underlying9
 | some ad =>
   refine run_convert_bytes_back w 37 9 _ ad c bs Tryz.underlying37 Tryz.underlying5 Tryz.underlying9 (fun j hj=>?_)
   obtain ⟨_,e,_,hc⟩:=h.bytes.spot hj
   injection e with e
   subst e
   rw [hc]
   simp [hj]
def Za (v:Value):Fact Grows:=⟨Unit,(),fun _=>v,fun _ _=>True,fun _ _ _ _ _=>trivial⟩
def Jq (bs:List UInt8):Fact Grows:=⟨Option Addr×Nat,(none,0),fun p=>.slice p.1 bs.length p.2,fun p w=>Sl w p.1 bs.length p.2 bs,fun _ _ _ h g=>Sl.grow g h⟩
theorem Known.get {ks:Known} {ls:List Tmp} {w:World} (h:ks.for ls w) (i:Nat) {d:Tmp} {R:World→Prop} (hi:ks[i]?=some (some d,R)) (hd:ls.contains d=true):R w :=
 h _ (List.mem_of_getElem? hi) ⟨d,rfl,by simpa using hd⟩
section
variable {P:Program} {ops:Array Oper} {W:World} {Q:Act→World→Prop} {o:Oper} {rest:List Oper} {fs:List (Fact Grows)} {ks:Known} {a:Act}
theorem Zcv {E:World→World→Prop}:∀ (l:List Oper) (fs:List (Fact E)) (ks ks':Known) (a:Act),(∀ k∈ks,k∈ks')→wpF P ops E W Q l fs ks a→wpF P ops E W Q l fs ks' a
 | [],_,_,_,_,hk,h=>fun w hw ha=>h w hw fun k hk'=>ha k (hk k hk')
 | _ :: _,[],_,_,_,_,h=>h.elim
 | o :: l,F :: fs,ks,ks',a,hk,h=>by
   unfold wpF fStep at *
   split
   ·rename_i hw
    simp only [hw,if_true] at h
    refine ⟨fun w hw' hf=>h.1 w hw' fun k hk'=>hf k (hk k hk'),fun x=>Zcv l fs _ _ _ (fun k hk'=>?_) (h.2 x)⟩
    rcases List.mem_cons.1 hk' with rfl | hk'
    ·exact List.mem_cons_self
    ·exact List.mem_cons_of_mem _ (hk k hk')
   ·rename_i hw
    simp only [hw] at h
    exact Zcv l fs ks ks' _ hk h
theorem f_val (v:Value) (hw:Region.wanted o (yielded ops a.tmps)=true) (h1:∀ w,Grows W w→(execOp a.eval o).run P w=.ok (.value v) w) (h2:wpF P ops Grows W Q rest fs ks (a.put o.dst v)) :
 wpF P ops Grows W Q (o :: rest) (Za v :: fs) ks a:=by
 unfold wpF fStep
 rw [if_pos hw]
 refine ⟨fun w hW _=>?_,fun x=>Zcv _ _ ks _ _ (fun k hk=>List.mem_cons_of_mem _ hk) h2⟩
 unfold gives
 rw [h1 w hW]
 exact ⟨Grows.refl w,(),rfl,trivial⟩
theorem Zko (v:Value) (hw:Region.wanted o (yielded ops a.tmps)=true) (h1:∀ w,Grows W w→ks.for (o.looksAt ops) w→(execOp a.eval o).run P w=.ok (.value v) w) (h2:wpF P ops Grows W Q rest fs ks (a.put o.dst v)) :
 wpF P ops Grows W Q (o :: rest) (Za v :: fs) ks a:=by
 unfold wpF fStep
 rw [if_pos hw]
 refine ⟨fun w hW hk=>?_,fun x=>Zcv _ _ ks _ _ (fun k hk=>List.mem_cons_of_mem _ hk) h2⟩
 unfold gives
 rw [h1 w hW hk]
 exact ⟨Grows.refl w,(),rfl,trivial⟩
theorem Zv (f:FuncId) (args:Array Value) (v:Value) (hw:Region.wanted o (yielded ops a.tmps)=true) (h1:∀ w,Grows W w→(execOp a.eval o).run P w=.ok (.enter f args) w)
 (hc:∀ w,Grows W w→ks.for (o.looksAt ops) w→Calls P f args w fun e w'=>e=.returned v∧Grows w w') (h2:wpF P ops Grows W Q rest fs ks (a.put o.dst v)) :
 wpF P ops Grows W Q (o :: rest) (Za v :: fs) ks a:=by
 unfold wpF fStep
 rw [if_pos hw]
 refine ⟨fun w hW hk=>?_,fun x=>Zcv _ _ ks _ _ (fun k hk=>List.mem_cons_of_mem _ hk) h2⟩
 unfold gives
 rw [h1 w hW]
 exact (hc w hW hk).mono fun e w' ⟨he,hg⟩=>⟨hg,(),he,trivial⟩
theorem f_new (bs:List UInt8) (f:FuncId) (args:Array Value) (hw:Region.wanted o (yielded ops a.tmps)=true) (h1:∀ w,Grows W w→(execOp a.eval o).run P w=.ok (.enter f args) w)
 (hc:∀ w,Grows W w→ks.for (o.looksAt ops) w→Calls P f args w fun e w'=>∃ A m c,e=.returned (.slice A m c)∧Sl w' A m c bs∧Below w.heap.size w w')
 (h2:∀ A c,wpF P ops Grows W Q rest fs ((o.dst,fun w=>Sl w A bs.length c bs) :: ks) (a.put o.dst (.slice A bs.length c))) :
 wpF P ops Grows W Q (o :: rest) (Jq bs :: fs) ks a:=by
 unfold wpF fStep
 rw [if_pos hw]
 refine ⟨fun w hW hk=>?_,fun x=>h2 x.1 x.2⟩
 unfold gives
 rw [h1 w hW]
 refine (hc w hW hk).mono fun e w' ⟨A,m,c,he,hs,hb⟩=>⟨hb,(A,c),?_,?_⟩
 ·rw [he,←hs.len];rfl
 ·have:=hs.len;subst this;exact hs
theorem Zbc {F:Fact Grows} (hw:Region.wanted o (yielded ops a.tmps)=false) (h2:wpF P ops Grows W Q rest fs ks (a.put o.dst undef)):wpF P ops Grows W Q (o :: rest) (F :: fs) ks a:=by
 unfold wpF fStep
 rw [if_neg (by simp [hw])]
 exact h2
theorem Zcw {w:World} {A:Option Addr} {n c:Nat} {bs:List UInt8} {x:Operand} (ho:o.op=.convert 37 9 x) (hx:a.eval x=.slice A n c) (h:Sl w A n c bs) :
 (execOp a.eval o).run Tryz.prog w=.ok (.value (.string ⟨bs.toArray⟩)) w:=by
 unfold execOp
 simp only [ho,hx,Sem.run_bind,Sem.run_pure,Z4 h,Result.andThen_ok]
end
theorem Ze (w:World):Grows w { w with drawn:=w.drawn+1 }:=⟨rfl,rfl,rfl,Nat.le_refl _,fun _ _=>rfl⟩
end Go.Proofs.YtkelafkbmnjpeaaGreat
