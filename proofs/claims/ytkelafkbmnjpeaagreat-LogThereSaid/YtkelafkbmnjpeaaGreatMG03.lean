/-
  Texts that the statements lean on, one behind the other.
-/
import Derived.Test.YtkelafkbmnjpeaaGreatMG02
import Derived.Test.YtkelafkbmnjpeaaGreatMG01
import Derived.StillTail
set_option linter.unusedSimpArgs false
set_option linter.unusedVariables false
set_option maxHeartbeats 2000000
set_option maxRecDepth 100000
namespace Go.Proofs.YtkelafkbmnjpeaaGreat
open Go.Lib (hid)
open Go.RowKit Go.Maps Go.WideMaps
theorem infoChange:(Tryz.prog.info? 154).map (fun i=>(i.zero,i.size,i.bytes))=some (some .nilFunc,1,8):=by kernel_rfl
theorem Zkl (w:World) (t:TypeId) (u:Value):Row (w.alloc (.cells #[u] t)) (w.alloc (.cells #[u] t)).heap.size (some ⟨w.heap.size,0,none⟩) 1 [u] :=
 ⟨rfl,fun k v hv=>⟨⟨w.heap.size,0,none⟩,rfl,(Whole.made w t #[u]).lt,by
  rw [show (⟨w.heap.size,0,none⟩:Addr).add k=⟨w.heap.size,k,none⟩ by unfold Addr.add;split <;> simp_all,(Whole.made w t #[u]).cell k]
  simpa using hv⟩⟩
structure Zo4 (w:World) (d:Nat) (own:Nat→Prop) (w':World) (m0 m':Dk):Prop where
 ends:∃ own' G',Z3 w' own' G' m'∧Whole w' d 89 (Jf m0 G'.nb G'.kb G'.pv)∧¬ own' d∧∀ k,own' k→own k∨w.heap.size≤k
 low:Zc (fun k=>k=d∨own k) w w'
section
variable {w:World} {d:Nat} {own:Nat→Prop} {G:Geo} {m m0:Dk} {v:Value} {c:Ch}
theorem Zm7 {w1 w2 w3:World} {n:Nat} {A:Option Addr} {cc:Nat} (h:Z3 w own G m) (ht:Whole w d 89 (Jf m0 G.nb G.kb G.pv)) (hd:¬ own d) (hc:ChAt w own m.made G.loc v c)
 (hn:OwnsN w1 m.made G.loc G.nb n (c.on m.names)) (ht1:w.mapTurned w1 G.nb)
 (hr:w2.ownsRow 0 154 1 (.slice A (m.pend.length+1) cc) (m.pend.length+1) (G.pvs++[v])) (hg:(w1.alloc (.cells #[v] 154)).grownBy w2 G.pv.ownBlock)
 (hat:(Value.slice A (m.pend.length+1) cc).ownBlock=G.pv.ownBlock∨(Value.slice A (m.pend.length+1) cc).ownBlock=some (w1.alloc (.cells #[v] 154)).heap.size)
 (hw3:w3=w2.setCell ⟨d,5,none⟩ (.slice A (m.pend.length+1) cc)):Zo4 w d own w3 m0 (m.change c):=by
 have hsz1:w.heap.size≤w1.heap.size:=ht1.grown.size
 have hsz2:w.heap.size+1≤w2.heap.size:=by have:=hg.size;rw [World.size_alloc] at this;omega
 have a1:Z3 w1 own G { m with names:=c.on m.names }:=h.named hn (fun k hk hne=>ht1.grown.block k hk (fun e=>hne (by injection e))) (by omega)
 have b2:∀ k,k < w.heap.size→G.pv.ownBlock≠some k→w2.heap[k]?=w1.heap[k]?:=fun k hk hne=>by
  rw [hg.block k (by rw [World.size_alloc];omega) (fun e=>hne e.symm)]
  exact Below.heap_alloc _ _ _ (by omega)
 have dT:∀ {k:Nat} {cs:Array Value} {t:TypeId},w.heap[k]?=some (.cells cs t (0,0))→t≠154→G.pv.ownBlock≠some k:=fun hk hne e=>by
  obtain ⟨cur,h1⟩:=Zx h.pend e
  rw [hk] at h1
  injection h1 with h1
  injection h1 with _ h1 _
  exact hne h1
 have ht':Whole w2 d 89 (Jf m0 G.nb G.kb G.pv):=(ht.same (ht1.grown.block d ht.lt fun e=>by
  injection e with e
  exact hd (e ▸ h.on))).same (b2 d ht.lt (dT ht (by decide)))
 have a2:Z3 w2 (fun k=>own k∨(Value.slice A (m.pend.length+1) cc).ownBlock=some k) { G with pv:=.slice A (m.pend.length+1) cc,pvs:=G.pvs++[v] } (m.change c):=by
  have a1':Z3 w1 own G (m.change c |> fun x=>{ x with pend:=m.pend }):=a1
  have wide:∀ {x:World},Z3 x own G { m with names:=c.on m.names }→w.heap.size≤x.heap.size→True:=fun _ _=>trivial
  have hlt2:∀ k,(own k∨(Value.slice A (m.pend.length+1) cc).ownBlock=some k)→k < w2.heap.size:=by
   rintro k (hk | hk)
   ·have:=h.lt k hk;omega
   ·exact (hr.lt k hk).2
  constructor
  ·exact hlt2
  ·exact Yp a1.names (b2 _ (h.lt _ h.on) fun e=>by
    obtain ⟨cur,h1⟩:=Zx h.pend e
    obtain ⟨es,cl,h2⟩:=Z0 h.names
    rw [h1] at h2;cases h2)
  ·exact .inl h.on
  ·exact Yp a1.kept (b2 _ (h.lt _ h.ok) fun e=>by
    obtain ⟨cur,h1⟩:=Zx h.pend e
    obtain ⟨es,cl,h2⟩:=Z0 h.kept
    rw [h1] at h2;cases h2)
  ·exact .inl h.ok
  ·exact h.nk
  ·show w2.ownsRow 0 154 1 _ (m.pend++[c]).length _
   rw [List.length_append]
   exact hr
  ·exact fun k hk=>.inr hk
  ·intro i u x h1 h2
   have h1:(G.pvs++[v])[i]?=some u:=h1
   have h2:(m.pend++[c])[i]?=some x:=h2
   have stay:∀ {u:Value} {x:Ch},ChAt w1 own m.made G.loc u x→ChAt w2 (fun k=>own k∨(Value.slice A (m.pend.length+1) cc).ownBlock=some k) m.made G.loc u x:=fun hu=>hu.stay (fun _ h=>.inl h) (Nat.le_refl _) (fun _ _=>rfl) fun k hk cs t e et =>
    b2 k (h.lt k hk) fun e2=>by
     obtain ⟨cur,h1⟩:=Zx a1.pend e2
     rw [e] at h1
     injection h1 with h1
     injection h1 with _ h1 _
     subst h1
     rcases et with et | et <;> cases et
   rcases Nat.lt_or_ge i m.pend.length with hi | hi
   ·rw [List.getElem?_append_left (by have:=h.nlen;omega)] at h1
    rw [List.getElem?_append_left hi] at h2
    exact stay (a1.chs i u x h1 h2)
   ·rw [List.getElem?_append_right (by have:=h.nlen;omega)] at h1
    rw [List.getElem?_append_right hi] at h2
    have e0:i - m.pend.length=0:=by
     rcases Nat.eq_zero_or_pos (i - m.pend.length) with e | e
     ·exact e
     ·rw [List.getElem?_eq_none (by simp only [List.length_cons,List.length_nil];omega)] at h2;cases h2
    rw [h.nlen,e0] at h1
    rw [e0] at h2
    cases h1;cases h2
    exact stay (hc.stay (fun _ h=>h) (Nat.le_refl _) (fun _ _=>rfl) fun k hk cs t e et=>ht1.grown.block k (h.lt k hk) fun e2=>by
     injection e2 with e2
     subst e2
     obtain ⟨es,cl,h2⟩:=Z0 h.names
     rw [e] at h2;cases h2)
  ·exact h.inj
  ·exact fun i hi=>(a1.cells i hi).same (b2 _ (h.lt _ (h.ol i hi)) (dT (h.cells i hi) (by decide)))
  ·exact fun i hi=>.inl (h.ol i hi)
  ·exact fun i hi=>Yg (a1.rows i hi) fun k hk=>b2 k (h.lt _ (h.or i k hi hk)) (by
    obtain ⟨cur,h1⟩:=Zx (h.rows i hi) hk
    exact dT h1 (by decide))
  ·exact fun i k hi hk=>.inl (h.or i k hi hk)
  ·exact h.apart
 have hnd:¬ (own d∨(Value.slice A (m.pend.length+1) cc).ownBlock=some d):=by
  rintro (e | e)
  ·exact hd e
  ·obtain ⟨cur,h1⟩:=Zx hr e
   unfold Whole at ht'
   rw [ht'] at h1
   injection h1 with h1
   injection h1 with _ h1 _
   cases h1
 subst hw3
 refine ⟨⟨_,_,a2.stay (fun k hk=>Below.heap_setCell _ _ _ _ fun e=>hnd (by have e:k=d:=e;exact e ▸ hk)) (by simp [World.setCell]),?_,hnd,?_⟩,?_⟩
 ·exact ht'.put 5 _
 ·rintro k (hk | hk)
  ·exact .inl hk
  ·rcases hat with e | e
   ·exact .inl (h.op k (e ▸ hk))
   ·rw [e] at hk
    injection hk with hk
    rw [World.size_alloc] at hk
    exact .inr (by omega)
 ·have s1:Zc (fun k=>k=d∨own k) w w1:=(Zc.refl _ w).grown ht1.grown fun g e=>by
   injection e with e
   exact .inr (e ▸ h.on)
  exact ((s1.alloc _).grown hg fun g e=>.inr (h.op g e)).setCell (p:=⟨d,5,none⟩) (.inl rfl) _
theorem Zgh (w:World) (h:Z3 w own G m) (ht:Whole w d 89 (Jf m0 G.nb G.kb G.pv)) (hd:¬ own d) (hc:ChAt w own m.made G.loc v c) (hp:m.pend.length≤1000000000) (hq:m.names.length≤1000000000) :
 Calls Tryz.prog 188 #[.pointer (some ⟨d,0,none⟩),v] w fun e w'=>e=.returned (.tuple #[])∧Zo4 w d own w' m0 (m.change c):=by
 have c3:w.cell? ⟨d,3,none⟩=some (.map (some G.nb)):=ht.cell 3
 obtain ⟨i0,hi0,hz0,hz1,hz2⟩:=info_parts infoChange
 have HI:=hid (And.intro hi0 (And.intro hz0 (And.intro hz1 hz2)))
 clear hi0 hz0 hz1 hz2
 obtain ⟨A0,cc0,hA0,_⟩:=Zp h.pend
 have HA0:=hid hA0
 -- what is known behind the change
 have next:∀ w1,OwnsN w1 m.made G.loc G.nb (m.names.length+1) (c.on m.names)→w.mapTurned w1 G.nb →
  w1.cell? ⟨d,5,none⟩=some (.slice A0 m.pend.length cc0)∧w1.frozen? ⟨d,5,none⟩=false∧d < w1.heap.size∧(w1.alloc (.cells #[v] 154)).ownsRow 0 154 1 (.slice A0 m.pend.length cc0) m.pend.length G.pvs∧∀ w2,(w1.alloc (.cells #[v] 154)).grownBy w2 G.pv.ownBlock→w2.cell? ⟨d,5,none⟩=some (.slice A0 m.pend.length cc0)∧w2.frozen? ⟨d,5,none⟩=false:=fun w1 hn ht1=>by
  have t1:Whole w1 d 89 (Jf m0 G.nb G.kb G.pv):=ht.same (ht1.grown.block d ht.lt fun e=>by
   injection e with e
   exact hd (e ▸ h.on))
  have e5:w1.cell? ⟨d,5,none⟩=some G.pv:=t1.cell 5
  rw [hA0] at e5
  refine ⟨e5,t1.free 5,t1.lt,?_,fun w2 hg=>?_⟩
  rotate_left
  ·have t2:Whole w2 d 89 (Jf m0 G.nb G.kb G.pv):=(t1.alloc _).same (hg.block d (by rw [World.size_alloc];have:=t1.lt;omega) fun e=>by
    obtain ⟨cur,h1⟩:=Zx h.pend e.symm
    unfold Whole at ht
    rw [ht] at h1
    injection h1 with h1
    injection h1 with _ h1 _
    cases h1)
   refine ⟨?_,t2.free 5⟩
   rw [←hA0]
   exact t2.cell 5
  rw [←hA0]
  have r1:w1.ownsRow 0 154 1 G.pv m.pend.length G.pvs:=Yg h.pend fun k hk=>ht1.grown.block k (h.lt k (h.op k hk)) fun e=>by
   injection e with e
   subst e
   obtain ⟨cur,h1⟩:=Zx h.pend hk
   obtain ⟨es,cl,h2⟩:=Z0 h.names
   rw [h1] at h2;cases h2
  exact Yg r1 fun k hk=>Below.heap_alloc _ _ _ (r1.lt k hk).2
 have fin:=fun w1 w2 w3 n A cc hn ht1 hr hg hat hw3=>Zm7 (w1:=w1) (w2:=w2) (w3:=w3) (n:=n) (A:=A) (cc:=cc) h ht hd hc hn ht1 hr hg hat hw3
 have HF:=hid fin
 have HN:=hid next
 clear next fin hA0
 cases c with
 | taken n =>
   obtain ⟨q1,a,rfl,_,hwa⟩:=hc
   have HM:=hid (Zi6 w h.names q1 hwa)
   clear h ht hd
   unfold ptrV at *
   go_enter Tryz.func188,Tryz.ntmps188
   go_wp2_with (first
    | (go_at_call 261;refine (HM.out).mono ?_;rintro e w1 ⟨rfl,hn1,ht1⟩;have hx:=HN.out w1 hn1 ht1;have c5:=hx.1;have f5:=hx.2.1;have HX:=hid hx.2.2.2;have HN1:=hid hn1;have HT1:=hid ht1;clear hx hn1 ht1)
    | (at_builtin;refine Z9 rfl _ _ 87 rfl Tryz.underlying87 HI.out.1 HI.out.2.1 HI.out.2.2.1 HI.out.2.2.2 rfl rfl HX.out.1 (news:=_) rfl (Zkl _ _ _) (fun h=>by cases h) (by simp [Value.oneCell']) (m.pend.length+1) rfl _ rfl (by unfold maxLen;omega) (by omega) (Nat.zero_le _) ?_;intro A2 cc2 w2 hr2 _ hg2 hat2;have hx2:=HX.out.2 w2 (HA0.out ▸ hg2);have c52:=hx2.1;have f52:=hx2.2;have HR2:=hid hr2;have HG2:=hid hg2;have HAT:=hid hat2;clear hr2 hg2 hat2 hx2))
   go_end0
   exact ⟨rfl,HF.out _ _ _ _ _ _ HN1.out HT1.out HR2.out (HA0.out ▸ HG2.out) (HA0.out ▸ HAT.out) rfl⟩
 | made n f =>
   obtain ⟨q1,q2,a,b,rfl,_,_,hwb,hwa⟩:=hc
   have HM:=hid (Zl0 w h.inj h.names (by unfold maxLen;omega) q1 q2 hwa hwb)
   clear h ht hd
   unfold ptrV at *
   go_enter Tryz.func188,Tryz.ntmps188
   go_wp2_with (first
    | (go_at_call 260;refine (HM.out).mono ?_;rintro e w1 ⟨rfl,hn1,ht1⟩;have hx:=HN.out w1 hn1 ht1;have c5:=hx.1;have f5:=hx.2.1;have HX:=hid hx.2.2.2;have HN1:=hid hn1;have HT1:=hid ht1;clear hx hn1 ht1)
    | (at_builtin;refine Z9 rfl _ _ 87 rfl Tryz.underlying87 HI.out.1 HI.out.2.1 HI.out.2.2.1 HI.out.2.2.2 rfl rfl HX.out.1 (news:=_) rfl (Zkl _ _ _) (fun h=>by cases h) (by simp [Value.oneCell']) (m.pend.length+1) rfl _ rfl (by unfold maxLen;omega) (by omega) (Nat.zero_le _) ?_;intro A2 cc2 w2 hr2 _ hg2 hat2;have hx2:=HX.out.2 w2 (HA0.out ▸ hg2);have c52:=hx2.1;have f52:=hx2.2;have HR2:=hid hr2;have HG2:=hid hg2;have HAT:=hid hat2;clear hr2 hg2 hat2 hx2))
   go_end0
   exact ⟨rfl,HF.out _ _ _ _ _ _ HN1.out HT1.out HR2.out (HA0.out ▸ HG2.out) (HA0.out ▸ HAT.out) rfl⟩
 | moved n to =>
   obtain ⟨q1,q2,a,b,rfl,_,_,hwa,hwb⟩:=hc
   have HM:=hid (Zi7 w h.inj h.names (by unfold maxLen;omega) q1 q2 hwa hwb)
   clear h ht hd
   unfold ptrV at *
   go_enter Tryz.func188,Tryz.ntmps188
   go_wp2_with (first
    | (go_at_call 304;refine (HM.out).mono ?_;rintro e w1 ⟨rfl,hn1,ht1⟩;have hx:=HN.out w1 hn1 ht1;have c5:=hx.1;have f5:=hx.2.1;have HX:=hid hx.2.2.2;have HN1:=hid hn1;have HT1:=hid ht1;clear hx hn1 ht1)
    | (at_builtin;refine Z9 rfl _ _ 87 rfl Tryz.underlying87 HI.out.1 HI.out.2.1 HI.out.2.2.1 HI.out.2.2.2 rfl rfl HX.out.1 (news:=_) rfl (Zkl _ _ _) (fun h=>by cases h) (by simp [Value.oneCell']) (m.pend.length+1) rfl _ rfl (by unfold maxLen;omega) (by omega) (Nat.zero_le _) ?_;intro A2 cc2 w2 hr2 _ hg2 hat2;have hx2:=HX.out.2 w2 (HA0.out ▸ hg2);have c52:=hx2.1;have f52:=hx2.2;have HR2:=hid hr2;have HG2:=hid hg2;have HAT:=hid hat2;clear hr2 hg2 hat2 hx2))
   go_end0
   exact ⟨rfl,HF.out _ _ _ _ _ _ HN1.out HT1.out HR2.out (HA0.out ▸ HG2.out) (HA0.out ▸ HAT.out) rfl⟩
end
end Go.Proofs.YtkelafkbmnjpeaaGreat
namespace Go.Proofs.YtkelafkbmnjpeaaGreat
open Go.RowKit
section
variable {P:Program} {md:Region.Mode} {ops:Array Oper} {E:World→World→Prop} {W:World}
def Jy (P:Program) (md:Region.Mode) (ops:Array Oper) (E:World→World→Prop) (W:World) (n g:Nat) (Fs:Nat→Fact E) (Z:Act→World→Prop):Nat→Array Bool→Known→Act→Prop
 | 0,listed,ks,a=>Region.seqB md ops g n listed=true∧∀ w,E W w→ks.all w→Z a w
 | f+1,listed,ks,a=>Region.ready md ops listed≠[]∧∀ i∈Region.ready md ops listed,i < n∧fOp P ops E W Fs i (Jy P md ops E W n g Fs Z f (listed.setIfInBounds i true)) ks a
theorem Zab {n g:Nat} {Fs:Nat→Fact E} {Z:Act→World→Prop}:∀ (f:Nat) (listed:Array Bool) (ks ks':Known) (a:Act),(∀ k∈ks,k∈ks')→Jy P md ops E W n g Fs Z f listed ks a→Jy P md ops E W n g Fs Z f listed ks' a
 | 0,_,_,_,_,hk,h=>⟨h.1,fun w hw ha=>h.2 w hw fun k hk'=>ha k (hk k hk')⟩
 | f+1,listed,ks,ks',a,hk,h=>by
   refine ⟨h.1,fun i hi=>⟨(h.2 i hi).1,?_⟩⟩
   have h1:=(h.2 i hi).2
   unfold fOp at *
   split
   ·rename_i ho;simp only [ho] at h1;exact Zab f _ ks ks' a hk h1
   ·rename_i o ho
    simp only [ho] at h1
    unfold fStep at *
    split
    ·rename_i hw
     simp only [hw,if_true] at h1
     refine ⟨fun w hw' hf=>h1.1 w hw' fun k hk'=>hf k (hk k hk'),fun x=>Zab f _ _ _ _ (fun k hk'=>?_) (h1.2 x)⟩
     rcases List.mem_cons.1 hk' with rfl | hk'
     ·exact List.mem_cons_self
     ·exact List.mem_cons_of_mem _ (hk k hk')
    ·rename_i hw
     simp only [hw] at h1
     exact Zab f _ ks ks' _ hk h1
theorem Zht {n g:Nat} {Fs:Nat→Fact E} {Z:Act→World→Prop} {i:Nat} {oi:Oper} (hi:ops[i]?=some oi) (hsel:∀ (j:Nat) (o:Oper) cs b,ops[j]?=some o→o.op≠.select cs b)
 (hs:Region.sinkB md ops n=true) (hc:Region.chainB md ops n=true) (hn:n < ops.size) (hin:i < n) :
 ∀ (fuel:Nat) (listed:Array Bool) (ks:Known) (a:Act),HeadInv md ops n listed →
  (∀ j oj,ops[j]?=some oj→j≠i→listed.getD j true=false→(∀ e∈oj.after,Region.binds md e=true→e.on≠i)→oi.apart ops oj=true) →
  i∈Region.ready md ops listed→fStep P ops E W (Fs i) oi (Jy P md ops E W n g Fs Z fuel (listed.setIfInBounds i true)) ks a→Jy P md ops E W n g Fs Z (fuel+1) listed ks a:=by
 intro fuel
 induction fuel with
 | zero =>
   intro listed ks a inv _ hr H
   have hun:=(mem_ready.1 hr).1
   refine ⟨fun h=>(by rw [h] at hr;cases hr),fun j hj=>?_⟩
   have hjn:j < n:=by
    rcases Nat.lt_or_ge j n with h | h
    ·exact h
    ·exact absurd hj (tail_waits hs hc hn inv _ i rfl hin hun j h)
   refine ⟨hjn,?_⟩
   by_cases hji:j=i
   ·subst hji;unfold fOp;simp only [hi];exact H
   ·have hseq:Region.seqB md ops g n (listed.setIfInBounds i true)=true:=by
     unfold fStep at H
     split at H
     ·exact (H.2 (Fs i).x0).1
     ·exact H.1
    have:=seqB_ready hseq j (ready_mono hj hji)
    omega
 | succ fuel ih =>
   intro listed ks a inv hfree hr H
   have hun:=(mem_ready.1 hr).1
   refine ⟨fun h=>(by rw [h] at hr;cases hr),fun j hj=>?_⟩
   have hjn:j < n:=by
    rcases Nat.lt_or_ge j n with h | h
    ·exact h
    ·exact absurd hj (tail_waits hs hc hn inv _ i rfl hin hun j h)
   refine ⟨hjn,?_⟩
   by_cases hji:j=i
   ·subst hji;unfold fOp;simp only [hi];exact H
   ·have hjr:=ready_mono hj hji
    obtain ⟨hjun,oj,hoj,hall⟩:=mem_ready.1 hj
    have hnot:∀ e∈oj.after,Region.binds md e=true→e.on≠i:=fun e he hb heq=>by
     have h1:=hall e he hb
     rw [heq,getD_both hun] at h1
     cases h1
    have hap:=hfree j oj hoj hji hjun hnot
    obtain ⟨p1,p2,p3⟩:=Oper.apart_spec hap
    have hsi:=fun cs b=>hsel i oi cs b hi
    have hsj:=fun cs b=>hsel j oj cs b hoj
    have hfree':∀ k ok,ops[k]?=some ok→k≠i→(listed.setIfInBounds j true).getD k true=false →
     (∀ e∈ok.after,Region.binds md e=true→e.on≠i)→oi.apart ops ok=true:=fun k ok hk hki hun hno=>by
     refine hfree k ok hk hki ?_ hno
     by_cases hjk:j=k
     ·subst hjk;exact hjun
     ·rw [getD_set_ne true hjk] at hun;exact hun
    have hri:=ready_mono hr (Ne.symm hji)
    have inv':=inv.set hj hjn
    unfold fOp
    simp only [hoj]
    by_cases hwi:Region.wanted oi (yielded ops a.tmps)=true
    ·unfold fStep at H
     simp only [hwi,if_true] at H
     obtain ⟨hgi,hK⟩:=H
     have hJ:∀ x,fStep P ops E W (Fs j) oj (Jy P md ops E W n g Fs Z fuel ((listed.setIfInBounds i true).setIfInBounds j true)) ((oi.dst,(Fs i).R x) :: ks) (a.put oi.dst ((Fs i).val x)):=fun x=>by
      have:=((hK x).2 j hjr).2
      unfold fOp at this
      simp only [hoj] at this
      exact this
     unfold fStep
     by_cases hwj:Region.wanted oj (yielded ops a.tmps)=true
     ·simp only [hwj,if_true]
      have hJ':∀ x,(∀ w,E W w→Known.for ((oi.dst,(Fs i).R x) :: ks) (oj.looksAt ops) w→gives P (Fs j) oj (a.put oi.dst ((Fs i).val x)).eval w) ∧
       ∀ y,Jy P md ops E W n g Fs Z fuel ((listed.setIfInBounds i true).setIfInBounds j true) ((oj.dst,(Fs j).R y) :: (oi.dst,(Fs i).R x) :: ks) ((a.put oi.dst ((Fs i).val x)).put oj.dst ((Fs j).val y)):=fun x=>by
       have:=hJ x
       unfold fStep at this
       rw [wanted_put oj a oi.dst _ p1] at this
       simp only [hwj,if_true] at this
       exact this
      refine ⟨fun w hw hf=>?_,fun y=>ih _ _ _ inv' hfree' hri ?_⟩
      ·have:=(hJ' (Fs i).x0).1 w hw (Zcm p1 hf)
       unfold gives at *
       rwa [execOp_put oj hsj a oi.dst _ p1] at this
      ·unfold fStep
       rw [wanted_put oi a oj.dst _ p3]
       simp only [hwi,if_true]
       refine ⟨fun w hw hf=>?_,fun x=>?_⟩
       ·have:=hgi w hw (Zdm hf)
        unfold gives at *
        rwa [execOp_put oi hsi a oj.dst _ p3]
       ·have:=(hJ' x).2 y
        rw [Array.setIfInBounds_comm _ _ hji,←Act.put_comm a _ _ p2]
        exact Zab _ _ _ _ _ (Zdn _ _ _) this
     ·simp only [hwj]
      have hJ':∀ x,Jy P md ops E W n g Fs Z fuel ((listed.setIfInBounds i true).setIfInBounds j true) ((oi.dst,(Fs i).R x) :: ks) ((a.put oi.dst ((Fs i).val x)).put oj.dst undef):=fun x=>by
       have:=hJ x
       unfold fStep at this
       rw [wanted_put oj a oi.dst _ p1] at this
       simp only [hwj] at this
       exact this
      refine ih _ _ _ inv' hfree' hri ?_
      unfold fStep
      rw [wanted_put oi a oj.dst _ p3]
      simp only [hwi,if_true]
      refine ⟨fun w hw hf=>?_,fun x=>?_⟩
      ·have:=hgi w hw hf
       unfold gives at *
       rwa [execOp_put oi hsi a oj.dst _ p3]
      ·rw [Array.setIfInBounds_comm _ _ hji,←Act.put_comm a _ _ p2]
       exact hJ' x
    ·unfold fStep at H
     simp only [hwi] at H
     have hJ:fStep P ops E W (Fs j) oj (Jy P md ops E W n g Fs Z fuel ((listed.setIfInBounds i true).setIfInBounds j true)) ks (a.put oi.dst undef):=by
      have:=(H.2 j hjr).2
      unfold fOp at this
      simp only [hoj] at this
      exact this
     unfold fStep at *
     rw [wanted_put oj a oi.dst _ p1] at hJ
     by_cases hwj:Region.wanted oj (yielded ops a.tmps)=true
     ·simp only [hwj,if_true] at *
      refine ⟨fun w hw hf=>?_,fun y=>ih _ _ _ inv' hfree' hri ?_⟩
      ·have:=hJ.1 w hw hf
       unfold gives at *
       rwa [execOp_put oj hsj a oi.dst _ p1] at this
      ·rw [wanted_put oi a oj.dst _ p3]
       simp only [hwi]
       have:=hJ.2 y
       rw [Array.setIfInBounds_comm _ _ hji,←Act.put_comm a _ _ p2]
       exact this
     ·simp only [hwj] at *
      refine ih _ _ _ inv' hfree' hri ?_
      rw [wanted_put oi a oj.dst _ p3]
      simp only [hwi]
      rw [Array.setIfInBounds_comm _ _ hji,←Act.put_comm a _ _ p2]
      exact hJ
theorem Zev {n g:Nat} {Fs:Nat→Fact E} {Z:Act→World→Prop} (hsel:Region.noSelect ops=true) (hs:Region.sinkB md ops n=true) (hc:Region.chainB md ops n=true) (hn:n < ops.size) :
 ∀ (l:List Oper) (k:Nat) (fs:List (Fact E)) (listed:Array Bool) (ks:Known) (a:Act),(∀ j,j < l.length→l[j]?=ops[k+j]?)→(∀ j F,fs[j]?=some F→Fs (k+j)=F)→k+l.length=n→HeadInv md ops n listed →
  Region.lexHead md ops g l.length k listed=true→wpF P ops E W Z l fs ks a→Jy P md ops E W n g Fs Z l.length listed ks a
 | [],k,fs,listed,ks,a,_,_,hk,_,hB,h=>by
   have:k=n:=by simpa using hk
   subst this
   refine ⟨by simpa [Region.lexHead] using hB,?_⟩
   unfold wpF at h
   exact h
 | o :: l,k,[],listed,ks,a,hl,hF,hk,inv,hB,h=>h.elim
 | o :: l,k,F :: fs,listed,ks,a,hl,hF,hk,inv,hB,h=>by
   have h0:ops[k]?=some o:=by simpa using (hl 0 (by simp)).symm
   have hF0:Fs k=F:=by simpa using hF 0 F rfl
   simp only [List.length_cons,Region.lexHead,Bool.and_eq_true] at hB
   obtain ⟨⟨hr,hf⟩,hB'⟩:=hB
   have hkn:k < n:=by simp only [List.length_cons] at hk;omega
   have hr':k∈Region.ready md ops listed:=by simpa using hr
   refine Zht h0 (Region.noSelect_spec hsel) hs hc hn hkn l.length listed ks a inv (Region.free_spec h0 hf) hr' ?_
   rw [hF0]
   exact Zgn (fun ks a h=>Zev hsel hs hc hn l (k+1) fs _ ks a (fun j hj=>by have:=hl (j+1) (by simp;omega);simpa [Nat.add_assoc,Nat.add_comm 1 j] using this)
    (fun j F' hj=>by have:=hF (j+1) F' (by simpa using hj);simpa [Nat.add_assoc,Nat.add_comm 1 j] using this) (by simp only [List.length_cons] at hk;omega) (inv.set hr' hkn) hB' h) h
theorem Y3 {n g:Nat} {Fs:Nat→Fact E} {Z:Act→World→Prop} {Q':Exit→Act→World→Prop} (ht:∀ a b c,E a b→E b c→E a c) (hZ:∀ listed a w,Region.seqB md ops g n listed=true→Z a w→wpAny P md ops Q' g listed a w) :
 ∀ (f:Nat) (listed:Array Bool) (ks:Known) (a:Act) (w:World),E W w→ks.all w→(∀ k∈ks,∀ w w',k.2 w→E w w'→k.2 w')→Jy P md ops E W n g Fs Z f listed ks a→wpAny P md ops Q' (f+g) listed a w
 | 0,listed,ks,a,w,hw,ha,_,h=>by rw [Nat.zero_add];exact hZ _ _ _ h.1 (h.2 w hw ha)
 | f+1,listed,ks,a,w,hw,ha,hst,h=>by
   rw [show f+1+g=(f+g)+1 by omega]
   refine ⟨fun h0=>absurd h0 h.1,fun i hi=>?_⟩
   have h1:=(h.2 i hi).2
   unfold fOp at h1
   unfold wpOp
   split
   ·rename_i ho;simp only [ho] at h1;exact Y3 ht hZ f _ ks a w hw ha hst h1
   ·rename_i o ho
    simp only [ho] at h1
    unfold fStep at h1
    split
    ·rename_i hwd
     simp only [hwd,if_true] at h1
     obtain ⟨hg,hK⟩:=h1
     have hg':=hg w hw (Known.all_for ha)
     have go:∀ x w',E w w'→(Fs i).R x w'→wpAny P md ops Q' (f+g) (listed.setIfInBounds i true) (a.put o.dst ((Fs i).val x)) w':=fun x w' he hR =>
      Y3 ht hZ f _ _ _ w' (ht _ _ _ hw he) (fun k hk=>by
       rcases List.mem_cons.1 hk with rfl | hk
       ·exact hR
       ·exact hst k hk _ _ (ha k hk) he) (fun k hk=>by
       rcases List.mem_cons.1 hk with rfl | hk
       ·exact (Fs i).stays x
       ·exact hst k hk) (hK x)
     left
     unfold gives at hg'
     unfold Oper.wp
     generalize (execOp a.eval o).run P w=r at *
     cases r with
     | ok n w' =>
       cases n <;> simp only [Zbn] at hg' <;> simp only [Oper.upon]
       case value u=>obtain ⟨he,x,rfl,hR⟩:=hg';exact go x w' he hR
       case skip=>obtain ⟨he,x,hx,hR⟩:=hg';rw [hx];exact go x w' he hR
       case enter f args=>exact hg'.mono fun e w'' ⟨he,x,hx,hR⟩=>by subst hx;exact go x w'' he hR
     | halt x w'=>simp only [Zbn] at hg'
    ·rename_i hwd
     simp only [hwd] at h1
     exact Y3 ht hZ f _ ks _ w hw ha hst h1
theorem Zf {id:Nat} {Q:Exit→Act→World→Prop} {a:Act} {w:World} {l:List Oper} (n:Nat) (fs:List (Fact E)) (hm:P.follows .mixedOrders=true) (hB:Region.lexTailB .any l.toArray n=true)
 (ht:∀ a b c,E a b→E b c→E a c) (hd:E w { w with drawn:=w.drawn+1 }) (h:wpF P l.toArray E w (fun a' w'=>wpList P l.toArray Q (l.drop n) a' w') (l.take n) fs [] a):(Code.region id l.toArray true).wp P Q a w:=by
 simp only [Region.lexTailB,Bool.and_eq_true,decide_eq_true_eq] at hB
 obtain ⟨⟨⟨⟨hsel,hn⟩,hs⟩,hc⟩,hlex⟩:=hB
 have hn':n < l.length:=by simpa using hn
 have htl:(l.take n).length=n:=by simp;omega
 have hdl:(l.drop n).length=l.toArray.size - n:=by simp
 have inv0:HeadInv .any l.toArray n (Array.replicate l.toArray.size false) :=
  ⟨by simp,fun j oj _ hl=>(by rw [getD_replicate_false] at hl;cases hl),fun t _ ht=>getD_in (by simpa using ht) (getD_replicate_false _ _)⟩
 have H:=Zev (P:=P) (md:=.any) (E:=E) (W:=w) (g:=l.toArray.size - n) (Fs:=fun i=>(fs[i]?).getD ⟨Unit,(),fun _=>undef,fun _ _=>True,fun _ _ _ _ _=>trivial⟩) (Z:=fun a' w'=>wpList P l.toArray Q (l.drop n) a' w') hsel hs hc hn (l.take n) 0 fs _ [] a (fun j hj=>by
  have hj':j < n:=by rw [htl] at hj;exact hj
  simp [hj']) (fun j F hj=>by simp only [Nat.zero_add,hj,Option.getD_some]) (by simpa using htl) inv0 (by rw [htl];exact hlex) h
 refine wp_region_any hm ?_
 have:=Y3 (Q':=Q) ht (fun listed a' w' hseq hL=>by
  have:=wpAny_of_seq (md:=.any) (Q':=Q) (l.drop n) n listed a' w' (fun j=>by simp [List.getElem?_drop]) (by rw [hdl];exact hseq) hL
  rwa [hdl] at this) _ _ _ _ { w with drawn:=w.drawn+1 } hd (fun k hk=>by cases hk) (fun k hk=>by cases hk) H
 rw [htl,show n+(l.toArray.size - n)=l.toArray.size by omega] at this
 exact this
end
end Go.Proofs.YtkelafkbmnjpeaaGreat
namespace Go.Proofs.YtkelafkbmnjpeaaGreat
open Go.RowKit
def Zo7 (t:TypeId) (cs:Array Value) (n:Nat):Fact Grows:=⟨Nat,0,fun g=>.slice (some ⟨g,0,none⟩) n n,fun g w=>Whole w g t cs,fun _ _ _ h g=>Grows.whole g h⟩
theorem Known.at {ks:Known} {w:World} (h:ks.all w) (i:Nat) {d:Option Tmp} {R:World→Prop} (hi:ks[i]?=some (d,R)):R w:=h _ (List.mem_of_getElem? hi)
section
variable {P:Program} {ops:Array Oper} {W:World} {Q:Act→World→Prop} {o:Oper} {rest:List Oper} {fs:List (Fact Grows)} {ks:Known} {a:Act}
theorem Zve (t:TypeId) (cs:Array Value) (n:Nat) (hw:Region.wanted o (yielded ops a.tmps)=true) (h1:∀ w,Grows W w→(execOp a.eval o).run P w=.ok (.value (.slice (some ⟨w.heap.size,0,none⟩) n n)) (w.alloc (.cells cs t)))
 (h2:∀ g,wpF P ops Grows W Q rest fs ((o.dst,fun w=>Whole w g t cs) :: ks) (a.put o.dst (.slice (some ⟨g,0,none⟩) n n))) :
 wpF P ops Grows W Q (o :: rest) (Zo7 t cs n :: fs) ks a:=by
 unfold wpF fStep
 rw [if_pos hw]
 refine ⟨fun w hW hk=>?_,fun g=>h2 g⟩
 unfold gives
 rw [h1 w hW]
 exact ⟨Zb _ _,w.heap.size,rfl,Whole.made _ _ _⟩
theorem Zs {ops:Array Oper} {W:World} {Q:Act→World→Prop} {fs:List (Fact Grows)} {ks:Known} {a:Act} (h:∀ w,Grows W w→ks.all w→Q a w):wpF P ops Grows W Q [] fs ks a:=h
end
theorem mixed:Tryz.prog.follows .mixedOrders=true:=by kernel_rfl
end Go.Proofs.YtkelafkbmnjpeaaGreat
