/-
  Texts that the statements lean on, one behind the other.
-/
import Derived.Test.YtkelafkbmnjpeaaGreatMG00
import Derived.Test.YtkelafkbmnjpeaaGreatMG01
import Derived.Lib.Hide
import Derived.KernelRfl
set_option linter.unusedVariables false
set_option linter.unusedSimpArgs false
namespace Go.Proofs.YtkelafkbmnjpeaaGreat
open Go.RowKit Go.Maps
open Go.WideElems (Fit rd rg pl rd_val elemAt)
theorem Yg {w w':World} {base:Nat} {e:TypeId} {size:Nat} {v:Value} {n:Nat} {xs:List Value} (h:w.ownsRow base e size v n xs) (hk:∀ k,v.ownBlock=some k→w'.heap[k]?=w.heap[k]?):w'.ownsRow base e size v n xs:=by
 obtain ⟨h1,h2⟩:=h
 refine ⟨h1,?_⟩
 rcases h2 with h2 | ⟨g,cap,cur,rfl,hb,hh,r⟩
 ·exact .inl h2
 ·exact .inr ⟨g,cap,cur,rfl,hb,(hk g rfl).trans hh,r⟩
theorem Zx {w:World} {base:Nat} {e:TypeId} {size:Nat} {v:Value} {n:Nat} {xs:List Value} (h:w.ownsRow base e size v n xs) {k:Nat} (hk:v.ownBlock=some k):∃ cur,w.heap[k]?=some (.cells cur e (0,0)):=by
 rcases h.2 with ⟨rfl,_⟩ | ⟨g,cap,cur,rfl,hb,hh,r⟩
 ·simp [Value.ownBlock] at hk
 ·obtain rfl:g=k:=by simpa [Value.ownBlock] using hk
  exact ⟨cur,hh⟩
section
variable {H:Type} {P:Program} {k:TypeId} {R R':Value→Option (DataW H×List MemPlace)} {w w':World} {b n:Nat} {D:DataW H}
theorem Yp (h:w.ownsMap P k R b n D) (e:w'.heap[b]?=w.heap[b]?):w'.ownsMap P k R b n D:=by
 obtain ⟨es,clock,hb,r⟩:=h
 exact ⟨es,clock,e.trans hb,r⟩
theorem Z0 (h:w.ownsMap P k R b n D):∃ es clock,w.heap[b]?=some (.map es clock):=by
 obtain ⟨es,clock,hb,_⟩:=h
 exact ⟨es,clock,hb⟩
theorem Zet (h:w.ownsMap P k R b n D):w.ownsMap P k R b (Maps.size D) D:=by
 obtain ⟨es,clock,hb,F,hs,rfl⟩:=h
 refine ⟨es,clock,hb,F,?_,rfl⟩
 simp [Maps.size,length_sorted]
theorem Zgk (h:w.ownsMap P k R b n D) (hR:∀ v z,R v=some z→R' v=some z):w.ownsMap P k R' b n D:=by
 obtain ⟨es,clock,hb,F,hs,rfl⟩:=h
 obtain ⟨F1,hmap,_⟩:=F.stay (R':=R') fun x _ z hz=>hR _ _ hz
 exact ⟨es,clock,hb,F1,hs,by rw [hmap]⟩
end
def ptrR (made:Nat) (loc:Nat→Nat):Value→Option (DataW Unit×List MemPlace)
 | .pointer none=>some (.lit (.int .i64 (-1)),[])
 | .pointer (some ⟨b,0,none⟩)=>((List.range made).find? fun i=>loc i==b).map fun (i:Nat)=>(.lit (.int .i64 (i:Int)),[])
 | _=>none
theorem Zl3 (made:Nat) (loc:Nat→Nat):ptrR made loc (.pointer none)=some (.lit (.int .i64 (-1)),[]):=rfl
theorem Zkm {made:Nat} {loc:Nat→Nat} (hinj:∀ i j,i < made→j < made→loc i=loc j→i=j) {i:Nat} (hi:i < made):ptrR made loc (.pointer (some ⟨loc i,0,none⟩))=some (.lit (.int .i64 (i:Int)),[]):=by
 unfold ptrR
 cases h:(List.range made).find? fun j=>loc j==loc i with
 | none=>simpa using (List.find?_eq_none.1 h) i (List.mem_range.2 hi)
 | some j =>
   have h1:=List.find?_some h
   have h2:=List.mem_range.1 (List.mem_of_find?_eq_some h)
   obtain rfl:=hinj j i h2 hi (by simpa using h1)
   simp only [h]
   rfl
theorem Zhs {made:Nat} {loc:Nat→Nat} {v:Value} {z:DataW Unit×List MemPlace} (h:ptrR made loc v=some z) :
 (v=.pointer none∧z=(.lit (.int .i64 (-1)),[]))∨∃ i,i < made∧v=.pointer (some ⟨loc i,0,none⟩)∧z=(.lit (.int .i64 (i:Int)),[]):=by
 unfold ptrR at h
 split at h
 ·cases h;exact .inl ⟨rfl,rfl⟩
 ·rename_i b
  cases hf:(List.range made).find? fun i=>loc i==b with
  | none=>rw [hf] at h;cases h
  | some i =>
    rw [hf] at h
    cases h
    have h1:=List.find?_some hf
    have h2:=List.mem_range.1 (List.mem_of_find?_eq_some hf)
    have h3:loc i=b:=by simpa using h1
    exact .inr ⟨i,h2,by rw [h3],rfl⟩
 ·cases h
theorem Zi9 {made made':Nat} {loc loc':Nat→Nat} (hinj:∀ i j,i < made'→j < made'→loc' i=loc' j→i=j) (hm:made≤made') (hl:∀ i,i < made→loc' i=loc i) (v:Value) (z:DataW Unit×List MemPlace) (h:ptrR made loc v=some z):ptrR made' loc' v=some z:=by
 rcases Zhs h with ⟨rfl,rfl⟩ | ⟨i,hi,rfl,rfl⟩
 ·rfl
 ·rw [←hl i hi]
  exact Zkm hinj (by omega)
structure Geo where
 nb:Nat
 kb:Nat
 pv:Value
 pvs:List Value
 loc:Nat→Nat
 row:Nat→Value
def strB (n:Nm):Value:=.string ⟨n.toArray⟩
def ptrV (b:Nat):Value:=.pointer (some ⟨b,0,none⟩)
def ChAt (w:World) (own:Nat→Prop) (made:Nat) (loc:Nat→Nat) (v:Value):Ch→Prop
 | .made n f=>n.length≤maxLen∧f < made∧∃ a b,v=.func (.func 260) #[] #[ptrV b,ptrV a]∧own a∧own b∧Whole w b 105 #[ptrV (loc f)]∧Whole w a 9 #[strB n]
 | .moved n to=>n.length≤maxLen∧to.length≤maxLen∧∃ a b,v=.func (.func 304) #[] #[ptrV a,ptrV b]∧own a∧own b∧Whole w a 9 #[strB n]∧Whole w b 9 #[strB to]
 | .taken n=>n.length≤maxLen∧∃ a,v=.func (.func 261) #[] #[ptrV a]∧own a∧Whole w a 9 #[strB n]
theorem ChAt.stay {w w':World} {own own':Nat→Prop} {made made':Nat} {loc loc':Nat→Nat} {v:Value} {c:Ch} (h:ChAt w own made loc v c) (ho:∀ k,own k→own' k) (hm:made≤made') (hl:∀ i,i < made→loc' i=loc i)
 (hs:∀ k,own k→(∀ cs t,w.heap[k]?=some (.cells cs t (0,0))→t=105∨t=9→w'.heap[k]?=w.heap[k]?)):ChAt w' own' made' loc' v c:=by
 cases c with
 | made n f =>
   obtain ⟨h1,h2,a,b,h3,h4,h5,h6,h7⟩:=h
   exact ⟨h1,by omega,a,b,h3,ho _ h4,ho _ h5,by rw [hl f h2];exact h6.same (hs b h5 _ _ h6 (.inl rfl)),h7.same (hs a h4 _ _ h7 (.inr rfl))⟩
 | moved n to =>
   obtain ⟨h1,h2,a,b,h3,h4,h5,h6,h7⟩:=h
   exact ⟨h1,h2,a,b,h3,ho _ h4,ho _ h5,h6.same (hs a h4 _ _ h6 (.inr rfl)),h7.same (hs b h5 _ _ h7 (.inr rfl))⟩
 | taken n =>
   obtain ⟨h1,a,h3,h4,h6⟩:=h
   exact ⟨h1,a,h3,ho _ h4,h6.same (hs a h4 _ _ h6 (.inr rfl))⟩
abbrev Zdl (w:World) (made:Nat) (loc:Nat→Nat) (b:Nat) (l:Dir):Prop:=w.ownsMap Tryz.prog 9 (ptrR made loc) b l.length (encD l)
structure Z3 (w:World) (own:Nat→Prop) (G:Geo) (m:Dk):Prop where
 lt:∀ k,own k→k < w.heap.size
 names:Zdl w m.made G.loc G.nb m.names
 on:own G.nb
 kept:Zdl w m.made G.loc G.kb m.kept
 ok:own G.kb
 nk:G.nb≠G.kb
 pend:w.ownsRow 0 154 1 G.pv m.pend.length G.pvs
 op:∀ k,G.pv.ownBlock=some k→own k
 chs:∀ (i:Nat) v c,G.pvs[i]?=some v→m.pend[i]?=some c→ChAt w own m.made G.loc v c
 inj:∀ i j,i < m.made→j < m.made→G.loc i=G.loc j→i=j
 cells:∀ i,i < m.made→Whole w (G.loc i) 108 #[.int .i64 (i:Int),G.row i,.int .i64 ((m.files i).kept:Int)]
 ol:∀ i,i < m.made→own (G.loc i)
 rows:∀ i,i < m.made→w.ownsRow 0 5 1 (G.row i) (m.files i).bytes.length ((m.files i).bytes.map byteV)
 or:∀ i k,i < m.made→(G.row i).ownBlock=some k→own k
 apart:∀ i j k,i < m.made→j < m.made→(G.row i).ownBlock=some k→(G.row j).ownBlock=some k→i=j
section
variable {w w':World} {own own':Nat→Prop} {G:Geo} {m m':Dk}
theorem Z3.nlen (h:Z3 w own G m):G.pvs.length=m.pend.length:=by have:=h.pend.1;omega
theorem Z3.stay (h:Z3 w own G m) (hs:∀ k,own k→w'.heap[k]?=w.heap[k]?) (hz:w.heap.size≤w'.heap.size):Z3 w' own G m where
 lt k hk:=Nat.lt_of_lt_of_le (h.lt k hk) hz
 names:=Yp h.names (hs _ h.on)
 on:=h.on
 kept:=Yp h.kept (hs _ h.ok)
 ok:=h.ok
 nk:=h.nk
 pend:=Yg h.pend fun k hk=>hs k (h.op k hk)
 op:=h.op
 chs i v c h1 h2:=(h.chs i v c h1 h2).stay (fun _ h=>h) (Nat.le_refl _) (fun _ _=>rfl) fun k hk _ _ _ _=>hs k hk
 inj:=h.inj
 cells i hi:=(h.cells i hi).same (hs _ (h.ol i hi))
 ol:=h.ol
 rows i hi:=Yg (h.rows i hi) fun k hk=>hs k (h.or i k hi hk)
 or:=h.or
 apart:=h.apart
theorem Z3.like (h:Z3 w own G m) (h1:m'.made=m.made) (h2:m'.names=m.names) (h3:m'.kept=m.kept) (h4:m'.pend=m.pend) (h5:m'.files=m.files):Z3 w own G m':=by
 obtain ⟨a,b,c,d,e,f,g,q,r,s,t,u,v,x,y⟩:=h
 constructor <;> first | assumption | (simp only [h1,h2,h3,h4,h5];assumption)
theorem Z3.named (h:Z3 w own G m) {l:Dir} {n:Nat} (hn:w'.ownsMap Tryz.prog 9 (ptrR m.made G.loc) G.nb n (encD l)) (hs:∀ k,k < w.heap.size→k≠G.nb→w'.heap[k]?=w.heap[k]?) (hz:w.heap.size≤w'.heap.size):Z3 w' own G { m with names:=l } where
 lt k hk:=Nat.lt_of_lt_of_le (h.lt k hk) hz
 names:=by
  have:=Zet hn
  rw [Zb9] at this
  exact this
 on:=h.on
 kept:=Yp h.kept (hs _ (h.lt _ h.ok) fun e=>h.nk e.symm)
 ok:=h.ok
 nk:=h.nk
 pend:=Yg h.pend fun k hk=>hs k (h.lt _ (h.op k hk)) fun e=>by
  subst e
  obtain ⟨cur,h1⟩:=Zx h.pend hk
  obtain ⟨es,cl,h2⟩:=Z0 h.names
  rw [h1] at h2;cases h2
 op:=h.op
 chs i v c h1 h2:=(h.chs i v c h1 h2).stay (fun _ h=>h) (Nat.le_refl _) (fun _ _=>rfl) fun k hk cs t e _=>hs k (h.lt k hk) fun ek=>by
  subst ek
  obtain ⟨es,cl,h2⟩:=Z0 h.names
  rw [e] at h2;cases h2
 inj:=h.inj
 cells i hi:=(h.cells i hi).same (hs _ (h.lt _ (h.ol i hi)) fun e=>by
  have h1:=h.cells i hi
  obtain ⟨es,cl,h2⟩:=Z0 h.names
  unfold Whole at h1
  rw [e,h2] at h1;cases h1)
 ol:=h.ol
 rows i hi:=Yg (h.rows i hi) fun k hk=>hs k (h.lt _ (h.or i k hi hk)) fun e=>by
  subst e
  obtain ⟨cur,h1⟩:=Zx (h.rows i hi) hk
  obtain ⟨es,cl,h2⟩:=Z0 h.names
  rw [h1] at h2;cases h2
 or:=h.or
 apart:=h.apart
theorem Z3.keptN (h:Z3 w own G m) {l:Dir} {n:Nat} (hn:w'.ownsMap Tryz.prog 9 (ptrR m.made G.loc) G.kb n (encD l)) (hs:∀ k,k < w.heap.size→k≠G.kb→w'.heap[k]?=w.heap[k]?) (hz:w.heap.size≤w'.heap.size):Z3 w' own G { m with kept:=l } where
 lt k hk:=Nat.lt_of_lt_of_le (h.lt k hk) hz
 kept:=by
  have:=Zet hn
  rw [Zb9] at this
  exact this
 on:=h.on
 names:=Yp h.names (hs _ (h.lt _ h.on) fun e=>h.nk e)
 ok:=h.ok
 nk:=h.nk
 pend:=Yg h.pend fun k hk=>hs k (h.lt _ (h.op k hk)) fun e=>by
  subst e
  obtain ⟨cur,h1⟩:=Zx h.pend hk
  obtain ⟨es,cl,h2⟩:=Z0 h.kept
  rw [h1] at h2;cases h2
 op:=h.op
 chs i v c h1 h2:=(h.chs i v c h1 h2).stay (fun _ h=>h) (Nat.le_refl _) (fun _ _=>rfl) fun k hk cs t e _=>hs k (h.lt k hk) fun ek=>by
  subst ek
  obtain ⟨es,cl,h2⟩:=Z0 h.kept
  rw [e] at h2;cases h2
 inj:=h.inj
 cells i hi:=(h.cells i hi).same (hs _ (h.lt _ (h.ol i hi)) fun e=>by
  have h1:=h.cells i hi
  obtain ⟨es,cl,h2⟩:=Z0 h.kept
  unfold Whole at h1
  rw [e,h2] at h1;cases h1)
 ol:=h.ol
 rows i hi:=Yg (h.rows i hi) fun k hk=>hs k (h.lt _ (h.or i k hi hk)) fun e=>by
  subst e
  obtain ⟨cur,h1⟩:=Zx (h.rows i hi) hk
  obtain ⟨es,cl,h2⟩:=Z0 h.kept
  rw [h1] at h2;cases h2
 or:=h.or
 apart:=h.apart
theorem Z3.wider (h:Z3 w own G m) (ho:∀ k,own k→own' k) (hl:∀ k,own' k→k < w.heap.size):Z3 w own' G m where
 lt:=hl
 names:=h.names
 on:=ho _ h.on
 kept:=h.kept
 ok:=ho _ h.ok
 nk:=h.nk
 pend:=h.pend
 op k hk:=ho _ (h.op k hk)
 chs i v c h1 h2:=(h.chs i v c h1 h2).stay ho (Nat.le_refl _) (fun _ _=>rfl) fun _ _ _ _ _ _=>rfl
 inj:=h.inj
 cells:=h.cells
 ol i hi:=ho _ (h.ol i hi)
 rows:=h.rows
 or i k hi hk:=ho _ (h.or i k hi hk)
 apart:=h.apart
theorem Z3.pends (h:Z3 w own G m) {pv:Value} {pvs:List Value} {cs:List Ch} (hp:w'.ownsRow 0 154 1 pv cs.length pvs) (ho:∀ k,pv.ownBlock=some k→own k) (hz:w.heap.size≤w'.heap.size)
 (hs:∀ k,own k→(∀ cur,w.heap[k]?≠some (.cells cur 154 (0,0)))→w'.heap[k]?=w.heap[k]?)
 (hc:∀ (i:Nat) v c,pvs[i]?=some v→cs[i]?=some c→ChAt w own m.made G.loc v c):Z3 w' own { G with pv:=pv,pvs:=pvs } { m with pend:=cs } where
 lt k hk:=Nat.lt_of_lt_of_le (h.lt k hk) hz
 names:=Yp h.names (hs _ h.on fun cur e=>by
  obtain ⟨es,cl,h2⟩:=Z0 h.names
  rw [e] at h2;cases h2)
 on:=h.on
 kept:=Yp h.kept (hs _ h.ok fun cur e=>by
  obtain ⟨es,cl,h2⟩:=Z0 h.kept
  rw [e] at h2;cases h2)
 ok:=h.ok
 nk:=h.nk
 pend:=hp
 op:=ho
 chs i v c h1 h2:=(hc i v c h1 h2).stay (fun _ h=>h) (Nat.le_refl _) (fun _ _=>rfl) fun k hk cs t e et=>hs k hk fun cur e2=>by
  rw [e] at e2
  injection e2 with e2
  injection e2 with _ e2 _
  subst e2
  rcases et with et | et <;> cases et
 inj:=h.inj
 cells i hi:=(h.cells i hi).same (hs _ (h.ol i hi) fun cur e=>by
  have h1:=h.cells i hi
  unfold Whole at h1
  rw [e] at h1
  injection h1 with h1
  injection h1 with _ h1 _
  cases h1)
 ol:=h.ol
 rows i hi:=Yg (h.rows i hi) fun k hk=>hs k (h.or i k hi hk) fun cur e=>by
  obtain ⟨cur',h1⟩:=Zx (h.rows i hi) hk
  rw [e] at h1
  injection h1 with h1
  injection h1 with _ h1 _
  cases h1
 or:=h.or
 apart:=h.apart
theorem Z3.filed (h:Z3 w own G m) {i:Nat} (hi:i < m.made) {v:Value} {f:Fl} (hc:Whole w' (G.loc i) 108 #[.int .i64 (i:Int),v,.int .i64 (f.kept:Int)])
 (hr:w'.ownsRow 0 5 1 v f.bytes.length (f.bytes.map byteV)) (hw:∀ k,own k→own' k) (hl:∀ k,own' k→k < w'.heap.size) (ho:∀ k,v.ownBlock=some k→own' k) (hv:∀ k,v.ownBlock=some k→(G.row i).ownBlock=some k∨∀ j,j < m.made→(G.row j).ownBlock≠some k) 
 (hs:∀ k,own k→k≠G.loc i→(G.row i).ownBlock≠some k→w'.heap[k]?=w.heap[k]?):Z3 w' own' { G with row:=fun j=>if j=i then v else G.row j } (m.setFile i f):=by
 have rowT:∀ {k:Nat} {cs:Array Value} {t:TypeId},w.heap[k]?=some (.cells cs t (0,0))→t≠5→(G.row i).ownBlock≠some k:=fun hk ht e=>by
  obtain ⟨cur,h1⟩:=Zx (h.rows i hi) e
  rw [hk] at h1
  injection h1 with h1
  injection h1 with _ h1 _
  exact ht h1
 have locT:∀ {k:Nat} {cs:Array Value} {t:TypeId},w.heap[k]?=some (.cells cs t (0,0))→t≠108→k≠G.loc i:=fun hk ht e=>by
  have h1:=h.cells i hi
  unfold Whole at h1
  rw [←e,hk] at h1
  injection h1 with h1
  injection h1 with _ h1 _
  exact ht h1
 have mapT:∀ {k:Nat},(∃ es cl,w.heap[k]?=some (.map es cl))→k≠G.loc i∧(G.row i).ownBlock≠some k:=fun ⟨es,cl,hk⟩=>by
  refine ⟨fun e=>?_,fun e=>?_⟩
  ·have h1:=h.cells i hi
   unfold Whole at h1
   rw [←e,hk] at h1;cases h1
  ·obtain ⟨cur,h1⟩:=Zx (h.rows i hi) e
   rw [hk] at h1;cases h1
 constructor
 ·exact hl
 ·exact Yp h.names (hs _ h.on (mapT (Z0 h.names)).1 (mapT (Z0 h.names)).2)
 ·exact hw _ h.on
 ·exact Yp h.kept (hs _ h.ok (mapT (Z0 h.kept)).1 (mapT (Z0 h.kept)).2)
 ·exact hw _ h.ok
 ·exact h.nk
 ·exact Yg h.pend fun k hk=>by
   obtain ⟨cur,h1⟩:=Zx h.pend hk
   exact hs k (h.op k hk) (locT h1 (by decide)) (rowT h1 (by decide))
 ·exact fun k hk=>hw _ (h.op k hk)
 ·exact fun j u c h1 h2=>(h.chs j u c h1 h2).stay hw (Nat.le_refl _) (fun _ _=>rfl) fun k hk cs t e et=>hs k hk (locT e (by rcases et with rfl | rfl <;> decide)) (rowT e (by rcases et with rfl | rfl <;> decide))
 ·exact h.inj
 ·intro j hj
  by_cases e:j=i
  ·subst e
   simp only [Dk.setFile,if_pos rfl]
   exact hc
  ·simp only [Dk.setFile,if_neg e]
   have h1:=h.cells j hj
   exact h1.same (hs _ (h.ol j hj) (fun e2=>e (h.inj _ _ hj hi e2)) (rowT h1 (by decide)))
 ·exact fun i hi=>hw _ (h.ol i hi)
 ·intro j hj
  by_cases e:j=i
  ·subst e
   simp only [Dk.setFile,if_pos rfl]
   exact hr
  ·simp only [Dk.setFile,if_neg e]
   refine Yg (h.rows j hj) fun k hk=>?_
   obtain ⟨cur,h1⟩:=Zx (h.rows j hj) hk
   exact hs k (h.or j k hj hk) (locT h1 (by decide)) fun e2=>e (h.apart _ _ _ hj hi hk e2)
 ·intro j k hj hk
  by_cases e:j=i
  ·subst e
   simp only [if_pos rfl] at hk
   exact ho k hk
  ·simp only [if_neg e] at hk
   exact hw _ (h.or j k hj hk)
 ·intro a b k ha hb hka hkb
  have aux:∀ x,x < m.made→x≠i→(G.row x).ownBlock=some k→v.ownBlock=some k→False:=fun x hx hxi h1 h2=>by
   rcases hv k h2 with h3 | h3
   ·exact hxi (h.apart _ _ _ hx hi h1 h3)
   ·exact h3 x hx h1
  by_cases e:a=i
  ·by_cases e':b=i
   ·rw [e,e']
   ·simp only [if_pos e] at hka
    simp only [if_neg e'] at hkb
    exact (aux b hb e' hkb hka).elim
  ·simp only [if_neg e] at hka
   by_cases e':b=i
   ·simp only [if_pos e'] at hkb
    exact (aux a ha e hka hkb).elim
   ·simp only [if_neg e'] at hkb
    exact h.apart _ _ _ ha hb hka hkb
theorem Z3.making (h:Z3 w own G m) {b:Nat} (hb:Whole w b 108 #[.int .i64 (m.made:Int),.slice none 0 0,.int .i64 0]) (hn:¬ own b) :
 Z3 w (fun k=>own k∨k=b) { G with loc:=fun j=>if j=m.made then b else G.loc j,row:=fun j=>if j=m.made then .slice none 0 0 else G.row j } { m with files:=fun j=>if j=m.made then ⟨[],0⟩ else m.files j,made:=m.made+1 }:=by
 have hinj:∀ i j,i < m.made+1→j < m.made+1→(if i=m.made then b else G.loc i)=(if j=m.made then b else G.loc j)→i=j:=fun i j hi hj e=>by
  by_cases h1:i=m.made
  ·by_cases h2:j=m.made
   ·omega
   ·rw [if_pos h1,if_neg h2] at e
    exact (hn (e ▸ h.ol j (by omega))).elim
  ·by_cases h2:j=m.made
   ·rw [if_neg h1,if_pos h2] at e
    exact (hn (e ▸ h.ol i (by omega))).elim
   ·rw [if_neg h1,if_neg h2] at e
    exact h.inj _ _ (by omega) (by omega) e
 have hloc:∀ i,i < m.made→(if i=m.made then b else G.loc i)=G.loc i:=fun i hi=>if_neg (by omega)
 constructor
 ·rintro k (hk | rfl)
  ·exact h.lt k hk
  ·exact hb.lt
 ·exact Zgk h.names (Zi9 hinj (Nat.le_succ _) hloc)
 ·exact .inl h.on
 ·exact Zgk h.kept (Zi9 hinj (Nat.le_succ _) hloc)
 ·exact .inl h.ok
 ·exact h.nk
 ·exact h.pend
 ·exact fun k hk=>.inl (h.op k hk)
 ·exact fun i v c h1 h2=>(h.chs i v c h1 h2).stay (fun _ h=>.inl h) (Nat.le_succ _) hloc fun _ _ _ _ _ _=>rfl
 ·exact hinj
 ·intro i hi
  by_cases e:i=m.made
  ·simp only [if_pos e]
   subst e
   exact hb
  ·simp only [if_neg e]
   exact h.cells i (by have:i < m.made+1:=hi;omega)
 ·intro i hi
  by_cases e:i=m.made
  ·simp only [if_pos e]
   exact .inr trivial
  ·simp only [if_neg e]
   exact .inl (h.ol i (by have:i < m.made+1:=hi;omega))
 ·intro i hi
  by_cases e:i=m.made
  ·simp only [if_pos e]
   exact ⟨rfl,.inl ⟨rfl,rfl⟩⟩
  ·simp only [if_neg e]
   exact h.rows i (by have:i < m.made+1:=hi;omega)
 ·intro i k hi hk
  by_cases e:i=m.made
  ·simp only [if_pos e] at hk
   cases hk
  ·simp only [if_neg e] at hk
   exact .inl (h.or i k (by have:i < m.made+1:=hi;omega) hk)
 ·intro i j k hi hj h1 h2
  by_cases e:i=m.made
  ·simp only [if_pos e] at h1
   cases h1
  ·by_cases e':j=m.made
   ·simp only [if_pos e'] at h2
    cases h2
   ·simp only [if_neg e] at h1
    simp only [if_neg e'] at h2
    exact h.apart _ _ _ (by have:i < m.made+1:=hi;omega) (by have:j < m.made+1:=hj;omega) h1 h2
end
def Jf (m:Dk) (nb kb:Nat) (pv:Value):Array Value :=
 #[.int .i64 m.most,.int .i64 (m.made:Int),.int .i64 m.used,.map (some nb),.map (some kb),pv,.int .i64 m.done,.int .i64 m.fail,.int .i64 m.cut,.bool m.down]
structure DkAt (w:World) (d:Nat) (own:Nat→Prop) (G:Geo) (m:Dk):Prop where
 rest:Z3 w own G m
 top:Whole w d 89 (Jf m G.nb G.kb G.pv)
 free:¬ own d
def DkTo (w:World) (d:Nat) (own:Nat→Prop) (w':World) (m':Dk):Prop :=
 ∃ own' G',DkAt w' d own' G' m'∧Zc (fun k=>k=d∨own k) w w'∧∀ k,own' k→own k∨w.heap.size≤k
section
variable {w w' w'':World} {d:Nat} {own:Nat→Prop} {G:Geo} {m m':Dk}
theorem DkAt.stay (h:DkAt w d own G m) (hs:∀ k,k=d∨own k→w'.heap[k]?=w.heap[k]?) (hz:w.heap.size≤w'.heap.size):DkAt w' d own G m :=
 ⟨h.rest.stay (fun k hk=>hs k (.inr hk)) hz,h.top.same (hs d (.inl rfl)),h.free⟩
theorem DkAt.lt (h:DkAt w d own G m) {k:Nat} (hk:k=d∨own k):k < w.heap.size:=by
 rcases hk with rfl | hk
 ·exact h.top.lt
 ·exact h.rest.lt k hk
theorem DkAt.grow (h:DkAt w d own G m) (hg:Grows w w'):DkAt w' d own G m:=h.stay (fun k hk=>hg.block k (h.lt hk)) hg.size
theorem DkAt.spare (h:DkAt w d own G m) {oth:Nat→Prop} (hs:Zc oth w w') (hn:∀ k,k=d∨own k→¬ oth k):DkAt w' d own G m:=h.stay (fun k hk=>hs.same k (h.lt hk) (hn k hk)) hs.size
theorem DkAt.retop (h:DkAt w d own G m) (ht:Whole w' d 89 (Jf m' G.nb G.kb G.pv)) (hs:Zc (fun k=>k=d) w w')
 (h1:m'.made=m.made) (h2:m'.names=m.names) (h3:m'.kept=m.kept) (h4:m'.pend=m.pend) (h5:m'.files=m.files):DkAt w' d own G m' :=
 ⟨(h.rest.stay (fun k hk=>hs.same k (h.rest.lt k hk) fun e=>h.free (e ▸ hk)) hs.size).like h1 h2 h3 h4 h5,ht,h.free⟩
end
end Go.Proofs.YtkelafkbmnjpeaaGreat
set_option maxHeartbeats 1000000
set_option maxRecDepth 100000
namespace Go.Proofs.YtkelafkbmnjpeaaGreat
open Go.RowKit Go.Maps Go.WideMaps
theorem lawStr:Keyed Tryz.prog 9:=string_keyed Tryz.underlying9
theorem Zl1 (w:World):(zeroValue 105).run Tryz.prog w=.ok (.pointer none) w:=by kernel_rfl
theorem Zgi {n:Nm} (hn:n.length≤maxLen):keyOf Tryz.prog 9 (strB n)=some (.string n):=by
 have:=keyOf_string_mk (P:=Tryz.prog) (k:=9) Tryz.underlying9 (s:=⟨n.toArray⟩) (by simpa [ByteArray.size] using hn)
 unfold strB
 simpa using this
def fileV (loc:Nat→Nat) (l:Dir) (n:Nm):Value:=match Dir.find n l with
 | some f=>ptrV (loc f)
 | none=>.pointer none
section
variable {w:World} {made:Nat} {loc:Nat→Nat} {b:Nat} {l:Dir} {n:Nm}
theorem Zhq (h:Zdl w made loc b l) (hn:n.length≤maxLen) (ok:Bool) :
 (Instr.lookup 85 (.map (some b)) (strB n) ok).run Tryz.prog w=.ok (if ok then .tuple #[fileV loc l n,.bool (Dir.find n l).isSome] else fileV loc l n) w∧∀ f,Dir.find n l=some f→f < made:=by
 have key:∀ v ps,ptrR made loc v=some ((encD l).atKey (.string n) (.lit (.int .i64 (-1))),ps)→v=fileV loc l n∧∀ f,Dir.find n l=some f→f < made:=fun v ps h2=>by
  rw [Zvc] at h2
  unfold fileV
  cases hf:Dir.find n l with
  | none =>
    rw [hf] at h2
    dsimp only at h2 ⊢
    rcases Zhs h2 with ⟨rfl,_⟩ | ⟨i,_,_,e⟩
    ·exact ⟨rfl,fun f e=>by cases e⟩
    ·simp only [Prod.mk.injEq,DataW.lit.injEq,Lit.int.injEq] at e
     omega
  | some f =>
    rw [hf] at h2
    dsimp only at h2 ⊢
    rcases Zhs h2 with ⟨rfl,e⟩ | ⟨i,hi,rfl,e⟩
    ·simp only [Prod.mk.injEq,DataW.lit.injEq,Lit.int.injEq] at e
     omega
    ·simp only [Prod.mk.injEq,DataW.lit.injEq,Lit.int.injEq] at e
     obtain rfl:f=i:=by omega
     exact ⟨rfl,fun f' e=>by cases e;exact hi⟩
 cases ok with
 | true =>
   obtain ⟨v,ps,h1,h2⟩:=World.ownsMap.look_ok h lawStr Tryz.underlying85 (Zl1 w) (Zl3 made loc) (Zgi hn)
   obtain ⟨rfl,h3⟩:=key v ps h2
   rw [Zui] at h1
   exact ⟨h1,h3⟩
 | false =>
   obtain ⟨v,ps,h1,h2⟩:=World.ownsMap.lookup h lawStr Tryz.underlying85 (Zl1 w) (Zl3 made loc) (Zgi hn)
   obtain ⟨rfl,h3⟩:=key v ps h2
   exact ⟨h1,h3⟩
end
section
variable {w:World} {d:Nat} {own:Nat→Prop} {G:Geo} {m:Dk} {n:Nm}
theorem DkAt.find_lt (h:DkAt w d own G m) (hn:n.length≤maxLen) {f:Nat} (hf:Dir.find n m.names=some f):f < m.made:=(Zhq h.rest.names hn true).2 f hf
theorem DkAt.look (h:DkAt w d own G m) (hn:n.length≤maxLen):(Instr.lookup 85 (.map (some G.nb)) (strB n) true).run Tryz.prog w=.ok (.tuple #[fileV G.loc m.names n,.bool (Dir.find n m.names).isSome]) w:=(Zhq h.rest.names hn true).1
theorem DkAt.look1 (h:DkAt w d own G m) (hn:n.length≤maxLen):(Instr.lookup 85 (.map (some G.nb)) (strB n) false).run Tryz.prog w=.ok (fileV G.loc m.names n) w:=(Zhq h.rest.names hn false).1
theorem DkAt.cell (h:DkAt w d own G m) (i:Nat):w.cell? ⟨d,i,none⟩=(Jf m G.nb G.kb G.pv)[i]?:=h.top.cell i
theorem Zb8 {loc:Nat→Nat} {l:Dir} {f:Nat} (h:Dir.find n l=some f):fileV loc l n=ptrV (loc f):=by unfold fileV;rw [h]
theorem Zat {loc:Nat→Nat} {l:Dir} (h:Dir.find n l=none):fileV loc l n=.pointer none:=by unfold fileV;rw [h]
theorem Zhr (w:World) (h:DkAt w d own G m) (hn:n.length≤maxLen):Calls Tryz.prog 124 #[.pointer (some ⟨d,0,none⟩),.string ⟨n.toArray⟩] w fun e w' =>
 e=.returned (.tuple #[if m.down then .pointer none else fileV G.loc m.names n,.int .i64 (if m.down then 82 else if (Dir.find n m.names).isSome then 0 else 3)])∧w=w':=by
 have c3:w.cell? ⟨d,3,none⟩=some (.map (some G.nb)):=h.cell 3
 have c9:w.cell? ⟨d,9,none⟩=some (.bool m.down):=h.cell 9
 have hl:=h.look hn
 unfold strB at hl
 have hv0:Dir.find n m.names=none→fileV G.loc m.names n=.pointer none:=Zat
 clear h hn
 generalize fileV G.loc m.names n=fv at *
 cases hd:m.down with
 | true =>
   rw [hd] at c9
   clear hl hv0
   go_enter Tryz.func124,Tryz.ntmps124
   go_wp2
   go_ret2
   exact ⟨rfl,rfl⟩
 | false =>
   rw [hd] at c9
   cases hf:(Dir.find n m.names).isSome with
   | true =>
     rw [hf] at hl
     clear hf hd hv0
     go_enter Tryz.func124,Tryz.ntmps124
     go_wp2
     go_ret2
     exact ⟨rfl,rfl⟩
   | false =>
     have hv:fv=.pointer none:=hv0 (by simpa using hf)
     rw [hf] at hl
     clear hf hd hv0
     subst hv
     go_enter Tryz.func124,Tryz.ntmps124
     go_wp2
     go_ret2
     exact ⟨rfl,rfl⟩
theorem Zl2 (w:World) (h:DkAt w d own G m) (hn:n.length≤maxLen):Calls Tryz.prog 48 #[.pointer (some ⟨d,0,none⟩),.string ⟨n.toArray⟩] w fun e w' =>
 e=.returned (.tuple #[.int .i64 (m.size n).1,.bool (m.size n).2])∧w=w':=by
 have c3:w.cell? ⟨d,3,none⟩=some (.map (some G.nb)):=h.cell 3
 have hl:=h.look hn
 cases hf:Dir.find n m.names with
 | none =>
   rw [hf,Zat hf] at hl
   unfold strB at hl
   simp only [Option.isSome] at hl
   have hs:m.size n=(0,false):=by unfold Dk.size;rw [hf]
   rw [hs]
   clear h hn hf hs
   go_enter Tryz.func48,Tryz.ntmps48
   go_wp2
   go_ret2
   exact ⟨rfl,rfl⟩
 | some f =>
   rw [hf,Zb8 hf] at hl
   unfold strB ptrV at hl
   simp only [Option.isSome] at hl
   have hs:m.size n=(((m.files f).bytes.length:Int),true):=by unfold Dk.size;rw [hf]
   rw [hs]
   have hlt:=h.find_lt hn hf
   obtain ⟨A,c,hA,_⟩:=Zp (h.rest.rows f hlt)
   have c1:w.cell? ⟨G.loc f,1,none⟩=some (.slice A (m.files f).bytes.length c):=by rw [←hA];exact (h.rest.cells f hlt).cell 1
   clear h hn hf hs hA
   dsimp only
   generalize (m.files f).bytes.length=k at *
   generalize G.loc f=lf at *
   go_enter Tryz.func48,Tryz.ntmps48
   go_wp2
   go_ret2
   exact ⟨rfl,rfl⟩
theorem Zi8 (n:Nm) (w:World):Calls Tryz.prog 186 #[.string ⟨n.toArray⟩] w fun e w'=>e=.returned (.bool (right n))∧w=w':=by
 unfold right
 generalize hk:n.length=k
 have hs:(⟨n.toArray⟩:ByteArray).size=k:=by simpa [ByteArray.size] using hk
 clear hk
 generalize (⟨n.toArray⟩:ByteArray)=s at *
 by_cases h1:1≤k
 ·have d1:decide ((k:Int)≥1)=true:=by simp;omega
  by_cases h2:k≤16
  ·have d2:decide ((k:Int)≤16)=true:=by simp;omega
   rw [decide_eq_true h1,decide_eq_true h2]
   clear h1 h2
   go_enter Tryz.func186,Tryz.ntmps186
   go_wp2
   go_ret
   exact ⟨rfl,rfl⟩
  ·have d2:decide ((k:Int)≤16)=false:=by simp;omega
   rw [decide_eq_true h1,decide_eq_false h2]
   clear h1 h2
   go_enter Tryz.func186,Tryz.ntmps186
   go_wp2
   go_ret
   exact ⟨rfl,rfl⟩
 ·have d1:decide ((k:Int)≥1)=false:=by simp;omega
  rw [decide_eq_false h1]
  clear h1
  go_enter Tryz.func186,Tryz.ntmps186
  go_wp2
  go_ret
  exact ⟨rfl,rfl⟩
theorem Zgj (w:World) {o:Nat} {x:Int} (hc:w.cell? ⟨d,o,none⟩=some (.int .i64 x)) (hf:w.frozen? ⟨d,o,none⟩=false) (hx:-9223372036854775807≤x∧x≤9223372036854775807):Calls Tryz.prog 182 #[.pointer (some ⟨d,o,none⟩)] w fun e w' =>
 e=.returned (.tuple #[])∧w'=if 0 < x then w.setCell ⟨d,o,none⟩ (.int .i64 (x - 1)) else w:=by
 by_cases h1:0 < x
 ·have e:wrap64 (x - 1)=x - 1:=IntWalk.wrap64_in _ (by omega)
  rw [if_pos h1]
  clear hx
  go_enter Tryz.func182,Tryz.ntmps182
  go_wp2
  go_end0
  exact ⟨rfl,rfl⟩
 ·rw [if_neg h1]
  clear hx
  go_enter Tryz.func182,Tryz.ntmps182
  go_wp2
  go_end0
  exact ⟨rfl,rfl⟩
theorem Zuh (w:World) {o:Nat} {x:Int} (y:Int) (hc:w.cell? ⟨d,o,none⟩=some (.int .i64 x)) (hf:w.frozen? ⟨d,o,none⟩=false):Calls Tryz.prog 53 #[.pointer (some ⟨d,o,none⟩),.int .i64 y] w fun e w' =>
 e=.returned (.tuple #[])∧w'=if 0≤y then w.setCell ⟨d,o,none⟩ (.int .i64 y) else w:=by
 by_cases h1:0≤y
 ·rw [if_pos h1]
  go_enter Tryz.func53,Tryz.ntmps53
  go_wp2
  go_end0
  exact ⟨rfl,rfl⟩
 ·rw [if_neg h1]
  go_enter Tryz.func53,Tryz.ntmps53
  go_wp2
  go_end0
  exact ⟨rfl,rfl⟩
theorem DkAt.set (h:DkAt w d own G m) {m':Dk} (i:Nat) (v:Value) (hd:(Jf m G.nb G.kb G.pv).setIfInBounds i v=Jf m' G.nb G.kb G.pv)
 (h1:m'.made=m.made) (h2:m'.names=m.names) (h3:m'.kept=m.kept) (h4:m'.pend=m.pend) (h5:m'.files=m.files):DkAt (w.setCell ⟨d,i,none⟩ v) d own G m' :=
 h.retop (hd ▸ h.top.put i v) ((Zc.refl (fun k=>k=d) w).setCell (p:=⟨d,i,none⟩) rfl v) h1 h2 h3 h4 h5
theorem Zr3 (w:World) (y:Int) (h:DkAt w d own G m):Calls Tryz.prog 15 #[.pointer (some ⟨d,0,none⟩),.int .i64 y] w fun e w' =>
 e=.returned (.tuple #[])∧DkAt w' d own G (m.setFail y)∧Zc (fun k=>k=d) w w':=by
 have c7:w.cell? ⟨d,7,none⟩=some (.int .i64 m.fail):=h.cell 7
 have HC:=Lib.hid (Zuh w y c7 (h.top.free 7))
 have H:=Lib.hid h
 clear h
 go_enter Tryz.func15,Tryz.ntmps15
 go_wp2_with (fail)
 refine HC.out.mono ?_
 rintro e w' ⟨rfl,hw⟩
 have HW:=Lib.hid hw
 clear hw
 go_wp2_with (fail)
 go_end0
 have hw:=HW.out
 by_cases hy:0≤y
 ·rw [if_pos hy] at hw
  subst hw
  exact ⟨rfl,H.out.set 7 _ (by simp [Jf,Dk.setFail,hy]) rfl rfl rfl rfl rfl,(Zc.refl (fun k=>k=d) w).setCell (p:=⟨d,7,none⟩) rfl _⟩
 ·rw [if_neg hy] at hw
  subst hw
  refine ⟨rfl,?_,Zc.refl _ _⟩
  have:m.setFail y=m:=by simp [Dk.setFail,hy]
  rw [this]
  exact H.out
end
end Go.Proofs.YtkelafkbmnjpeaaGreat
set_option maxHeartbeats 1000000
set_option maxRecDepth 100000
namespace Go.Proofs.YtkelafkbmnjpeaaGreat
open Go.RowKit Go.Maps Go.WideMaps
section
variable {w:World} {own:Nat→Prop} {made:Nat} {loc:Nat→Nat} {b n:Nat} {l:Dir}
abbrev OwnsN (w:World) (made:Nat) (loc:Nat→Nat) (b n:Nat) (l:Dir):Prop:=w.ownsMap Tryz.prog 9 (ptrR made loc) b n (encD l)
theorem Zi5 {H:Type} {P:Program} {k:TypeId} {R:Value→Option (DataW H×List MemPlace)} {w w':World} {b n c t:Nat} {D:DataW H} {cs:Array Value} (hc:Whole w c t cs) (h:w.ownsMap P k R b n D) (ht:w.mapTurned w' b):Whole w' c t cs :=
 hc.same (ht.grown.block c hc.lt fun e=>by
  injection e with e
  subst e
  obtain ⟨es,cl,h2⟩:=Z0 h
  unfold Whole at hc
  rw [h2] at hc;cases hc)
theorem Zi6 (w:World) {x:Nm} {a:Nat} (h:OwnsN w made loc b n l) (hx:x.length≤maxLen) (ha:Whole w a 9 #[strB x]) :
 Calls Tryz.prog 261 #[.map (some b),ptrV a] w fun e w'=>e=.returned (.tuple #[])∧OwnsN w' made loc b (n+1) (Dir.del x l)∧w.mapTurned w' b:=by
 have c0:w.cell? ⟨a,0,none⟩=some (.string ⟨x.toArray⟩):=ha.cell 0
 have hk:=Zgi hx
 unfold ptrV
 unfold strB at hk
 clear ha hx
 go_enter Tryz.func261,Tryz.ntmps261
 go_wp2_with (first
  | (at_delete;refine wpList_delete_own _ rfl _ _ 85 9 rfl _ lawStr Tryz.underlying85 _ b n _ rfl h _ _ rfl hk ?_;intro w1 hown1 hturn1))
 go_end0
 rw [Zo5] at hown1
 exact ⟨rfl,hown1.mono (Nat.le_succ _),hturn1⟩
theorem Zl0 (w:World) {x:Nm} {f a c:Nat} (hinj:∀ i j,i < made→j < made→loc i=loc j→i=j) (h:OwnsN w made loc b n l) (hn:n < maxLen) (hx:x.length≤maxLen) (hf:f < made) (ha:Whole w a 9 #[strB x]) (hc:Whole w c 105 #[ptrV (loc f)]) :
 Calls Tryz.prog 260 #[.map (some b),ptrV c,ptrV a] w fun e w'=>e=.returned (.tuple #[])∧OwnsN w' made loc b (n+1) (Dir.put x f l)∧w.mapTurned w' b:=by
 have c0:w.cell? ⟨a,0,none⟩=some (.string ⟨x.toArray⟩):=ha.cell 0
 have c1:w.cell? ⟨c,0,none⟩=some (.pointer (some ⟨loc f,0,none⟩)):=hc.cell 0
 have hk:=Zgi hx
 have hv:=Zkm hinj hf
 unfold ptrV
 unfold strB at hk
 clear ha hx hc hinj hf
 generalize loc f=lf at *
 go_enter Tryz.func260,Tryz.ntmps260
 go_wp2_with (first
  | (at_mapUpdate;refine wpList_mapUpdate_in _ rfl _ _ _ 85 rfl 9 _ lawStr Tryz.underlying85 _ b n _ rfl h hn _ _ _ rfl rfl hk _ _ hv ?_;intro w1 hown1 hturn1))
 go_end0
 rw [Zo6] at hown1
 exact ⟨rfl,hown1,hturn1⟩
theorem Zi7 (w:World) {x y:Nm} {a c:Nat} (hinj:∀ i j,i < made→j < made→loc i=loc j→i=j) (h:OwnsN w made loc b n l) (hn:n < maxLen) (hx:x.length≤maxLen) (hy:y.length≤maxLen) (ha:Whole w a 9 #[strB x]) (hc:Whole w c 9 #[strB y]) :
 Calls Tryz.prog 304 #[.map (some b),ptrV a,ptrV c] w fun e w'=>e=.returned (.tuple #[])∧OwnsN w' made loc b (n+1) ((Ch.moved x y).on l)∧w.mapTurned w' b:=by
 have c0:w.cell? ⟨a,0,none⟩=some (.string ⟨x.toArray⟩):=ha.cell 0
 have hk:=Zgi hx
 have hky:=Zgi hy
 have hl:=Zhq (Zet h |> fun h=>by rw [Zb9] at h;exact h) hx true
 have hlk:=hl.1
 have hlt:=hl.2
 have HA:=Lib.hid ha
 have HCc:=Lib.hid hc
 unfold ptrV
 unfold strB at hk hky hlk
 clear hl ha hc hx hy
 cases hf:Dir.find x l with
 | none =>
   have e:(Ch.moved x y).on l=l:=by simp only [Ch.on,hf]
   rw [hf,Zat hf] at hlk
   simp only [Option.isSome,if_true] at hlk
   rw [e]
   have H:=Lib.hid h
   clear h hf hlt hinj hk hky e
   go_enter Tryz.func304,Tryz.ntmps304
   go_wp2
   go_end0
   exact ⟨rfl,H.out.mono (Nat.le_succ _),H.out.turned_refl⟩
 | some f =>
   have e:(Ch.moved x y).on l=Dir.put y f (Dir.del x l):=by simp only [Ch.on,hf]
   rw [hf,Zb8 hf] at hlk
   unfold ptrV at hlk
   simp only [Option.isSome,if_true] at hlk
   have hv:=Zkm hinj (hlt f hf)
   rw [e]
   clear hf hlt hinj e
   generalize loc f=lf at *
   go_enter Tryz.func304,Tryz.ntmps304
   go_wp2_with (first
    | (at_delete;refine wpList_delete_own _ rfl _ _ 85 9 rfl _ lawStr Tryz.underlying85 _ b n _ rfl h _ _ rfl hk ?_;intro w1 hown1 hturn1;have c1:w1.cell? ⟨c,0,none⟩=some (.string ⟨y.toArray⟩):=(Zi5 HCc.out h hturn1).cell 0;have HT:=Lib.hid hturn1;clear hturn1)
    | (at_mapUpdate;refine wpList_mapUpdate_in _ rfl _ _ _ 85 rfl 9 _ lawStr Tryz.underlying85 _ b n _ rfl hown1 hn _ _ _ rfl rfl hky _ _ hv ?_;intro w2 hown2 hturn2))
   go_end0
   rw [Zo5,Zo6] at hown2
   exact ⟨rfl,hown2,HT.out.trans hturn2⟩
end
end Go.Proofs.YtkelafkbmnjpeaaGreat
