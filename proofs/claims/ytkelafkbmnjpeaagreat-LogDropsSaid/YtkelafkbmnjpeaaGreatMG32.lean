/-
  Texts that the statements lean on, one behind the other.
-/
import Derived.Test.YtkelafkbmnjpeaaGreatMG30
import Derived.Test.YtkelafkbmnjpeaaGreatMG03
import Derived.Test.YtkelafkbmnjpeaaGreatMG31
import Derived.Shelf.SlSortCmp.NoneTotal
import Derived.Lib.OwnBridge
import Derived.Lib.Hide
import Derived.Test.YtkelafkbmnjpeaaGreatMG00
import Derived.Sort.MapsRangeIn
import Derived.OwnWalkIn
import Derived.TacticsInMore
import Derived.LoopNIn
import Derived.LoopIn
set_option maxHeartbeats 1000000
namespace Go.Proofs.YtkelafkbmnjpeaaGreat
open Go.Shelf Go.RowKit Go.Lib Go.Sort
theorem cmp_before:∀ a b:List UInt8,decide (Lib.compareBytes a b < 0)=bytesBefore a b
 | [],[]=>rfl
 | [],_ :: _=>rfl
 | _ :: _,[]=>rfl
 | x :: r,y :: s=>by
   have ih:=cmp_before r s
   unfold Lib.compareBytes
   by_cases h1:x < y
   ·have h1':x.toNat < y.toNat:=h1
    simp [h1,bytesBefore]
   ·have h1':¬ x.toNat < y.toNat:=h1
    by_cases h2:y < x
    ·have hne:¬ x=y:=fun e=>by subst e;exact h1 h2
     simp [h1,h2,bytesBefore,hne]
    ·have h2':¬ y.toNat < x.toNat:=h2
     have he:x=y:=UInt8.toNat_inj.1 (by omega)
     subst he
     simp only [h1,if_false,ih]
     simp [bytesBefore,h1]
def cfH (x y:Ht):Int:=Lib.compareBytes x.key y.key
theorem ltH (x y:Ht):ltOf cfH x y=bytesBefore x.key y.key:=cmp_before _ _
theorem swoH:SWO (ltOf cfH) where
 irrefl x:=by rw [ltH];exact hbef_irrefl _
 trans x y z h1 h2:=by rw [ltH] at *;exact hbef_trans h1 h2
 ntrans x y z h1 h2:=by
  rw [ltH] at *
  rcases h:bytesBefore x.key z.key with _ | _
  ·rfl
  ·exfalso
   by_cases e:x.key=y.key
   ·rw [←e,h] at h2;cases h2
   ·have h3:=hbef_trans (hbef_total h1 e) h
    rw [h3] at h2
    cases h2
theorem Zmw (x y:Ht) (W:World):Calls Tryz.prog 209 #[htV x,htV y] W fun e w'=>e=.returned (.int .i64 (cfH x y))∧∃ q os',w'=grow (W.drewN q) os':=by
 obtain ⟨xk,xs,xa,xz⟩:=x
 obtain ⟨yk,ys,ya,yz⟩:=y
 show Calls _ _ #[.agg #[.int .i64 xk,.string ⟨xs.toArray⟩,.int .i64 xa,.int .i64 xz],.agg #[.int .i64 yk,.string ⟨ys.toArray⟩,.int .i64 ya,.int .i64 yz]] _ _
 have hcon:=fun W'=>strings_Compare ⟨xs.toArray⟩ ⟨ys.toArray⟩ W'
 obtain ⟨r,hr⟩:∃ r,cfH ⟨xk,xs,xa,xz⟩ ⟨yk,ys,ya,yz⟩=r:=⟨_,rfl⟩
 have hcon':∀ W',Calls Tryz.prog 210 #[.string ⟨xs.toArray⟩,.string ⟨ys.toArray⟩] W' fun e w'=>e=.returned (.int .i64 r)∧w'=W':=fun W'=>by
  rw [←hr]
  exact hcon W'
 rw [hr]
 have HC:=Go.Lib.hid hcon'
 clear hcon hcon' hr
 go_enter Tryz.func209,Tryz.ntmps209
 go_wp2_with (fail)
 refine (HC.out _).mono ?_
 rintro e w' ⟨rfl,rfl⟩
 go_wp2_with (fail)
 go_ret
 exact ⟨rfl,0,_,by rw [alloc_eq_grow,alloc_eq_grow,grow_grow];rfl⟩
theorem Zix (l:List Ht):flatK htE 4 l.toArray=(l.flatMap htE).toArray:=by
 have hl:(l.flatMap htE).length=l.length*4:=Y7 htL l
 refine ext_get! (by simp [hl]) fun t ht=>?_
 have ht':t < l.length*4:=by simpa using ht
 rw [get_flatK _ _ _ t (by simpa using ht')]
 have hq:t / 4 < l.length:=by omega
 have h1:=Zfp htL l (t / 4) (t % 4) l[t / 4] (List.getElem?_eq_getElem hq) (by omega)
 rw [show t / 4*4+t % 4=t by omega] at h1
 have h2:t % 4 < (htE l[t / 4]).length:=by rw [htL];omega
 rw [getElem!_pos (l.flatMap htE).toArray t (by simp [hl];omega)]
 have h3:(l.flatMap htE)[t]'(by omega)=(htE l[t / 4])[t % 4]:=by
  have h4:(l.flatMap htE)[t]?=some (htE l[t / 4])[t % 4]:=by rw [h1,List.getElem?_eq_getElem h2]
  rw [List.getElem?_eq_getElem (by omega)] at h4
  exact Option.some.inj h4
 rw [getElem!_pos l.toArray (t / 4) (by simpa using hq),List.getElem_toArray,List.getElem_toArray,h3]
 exact getElem!_pos (htE l[t / 4]) (t % 4) h2
theorem Zpk {w:World} {base:Nat} {e:TypeId} {g n cap q k:Nat} {xs ys:List Value} (h:w.ownsRow base e k (.slice (some ⟨g,0,none⟩) n cap) n xs) (hy:ys.length=xs.length) :
 (putRow id (Sort.ahead w q) g 0 ys.toArray).ownsRow base e k (.slice (some ⟨g,0,none⟩) n cap) n ys:=by
 have hx:=h.1
 rcases h.2 with ⟨e0,_⟩ | ⟨g',cap',cur,e0,hb,hg,hn,hm,hs,ht⟩
 ·cases e0
 ·injection e0 with e1 _ e3
  injection e1 with e1
  injection e1 with e1
  subst e1;subst e3
  refine ⟨by omega,.inr ⟨g,cap,putCells id 0 ys.toArray cur,rfl,hb,?_,hn,hm,by simpa [putCells] using hs,?_⟩⟩
  ·simp [putRow,mapBlock,Sort.ahead,Array.getElem?_modify,hg,onCells]
  ·have hnk:n*k≤cap*k:=Nat.mul_le_mul_right k hn
   apply List.ext_getElem?
   intro j
   rw [List.getElem?_take,Array.getElem?_toList]
   by_cases hj:j < n*k
   ·have hjc:j < cur.size:=by omega
    simp only [if_pos hj,putCells,Array.getElem?_mapIdx,Array.getElem?_eq_getElem hjc,Option.map_some]
    rw [if_pos (by simp;omega),List.getElem?_eq_getElem (by omega)]
    simp [getElem!_pos,show j < ys.length by omega]
   ·rw [if_neg hj,List.getElem?_eq_none (by omega)]
theorem Ziy (w:World) (os:Array Obj):Grows w (grow w os):=⟨rfl,rfl,rfl,by simp [grow],fun k hk=>by simp [grow,Array.getElem?_append,hk]⟩
theorem Zsz {w:World} {base:Nat} {e:TypeId} {g n cap:Nat} {l:List Ht} (h:w.ownsRow base e 4 (.slice (some ⟨g,0,none⟩) n cap) n (l.flatMap htE)):HoldsK htE 4 w g 0 l.toArray:=by
 unfold HoldsK
 rw [Zix]
 intro j hj
 have hj':j < (l.flatMap htE).length:=by simpa using hj
 rw [Nat.zero_add]
 have h1:=h.cells (g:=g) rfl j _ (List.getElem?_eq_getElem hj')
 rw [show (⟨g,0,none⟩:Addr).add j=⟨g,j,none⟩ by unfold Addr.add;split <;> simp_all] at h1
 refine ⟨?_,?_⟩
 ·rw [h1,getElem!_pos (l.flatMap htE).toArray j (by simpa using hj')]
  simp
 ·rcases h.2 with ⟨e0,_⟩ | ⟨g',cap',cur,e0,hb,hg,_⟩
  ·cases e0
  ·injection e0 with e1 _ e3
   injection e1 with e1
   injection e1 with e1
   subst e1
   simp [World.frozen?,hg]
theorem Zvf {d d':Array Ht} (h:PermIn 0 d.size d d'):d'.toList.Perm d.toList:=by
 have h2:=h.2.2
 have h1:=h.1
 rw [Array.extract_eq_self_of_le (Nat.le_refl _),Array.extract_eq_self_of_le (by omega)] at h2
 exact h2
theorem Zpl {d:Array Ht} (h:SortedIn (ltOf cfH) 0 d.size d):d.toList.Pairwise fun x y=>bytesBefore y.key x.key=false:=by
 rw [List.pairwise_iff_getElem]
 intro i j hi hj hij
 have hi':i < d.size:=by simpa using hi
 have hj':j < d.size:=by simpa using hj
 have h1:=h i j (Nat.zero_le _) hij hj'
 rw [ltH,getElem!_pos d j hj',getElem!_pos d i hi'] at h1
 simpa using h1
theorem agg35:∀ w,(isAgg 167).run Tryz.prog w=.ok true w:=fun w=>by kernel_rfl
theorem size35:∀ w,(Go.sizeOf 167).run Tryz.prog w=.ok 4 w:=fun w=>by kernel_rfl
theorem Zs0 (base:Nat) (A:Option Addr) (n c:Nat) (l:List Ht) (w:World) (ho:w.ownsRow base 167 4 (.slice A n c) n (l.flatMap htE)) (hn:n < 4611686018427387904) :
 Calls Tryz.prog 269 #[.slice A n c,.func (.func 209) #[] #[]] w fun e w'=>e=.returned (.tuple #[]) ∧
  ∃ l':List Ht,l'.Perm l∧(l'.Pairwise fun x y=>bytesBefore y.key x.key=false)∧w'.ownsRow base 167 4 (.slice A n c) n (l'.flatMap htE)∧(∀ B,B≤base→Below B w w'):=by
 have hlen:l.length=n:=by
  have h1:=ho.1
  rw [Y7 htL] at h1
  omega
 rcases ho.2 with ⟨e0,h0⟩ | ⟨g,cap,cur,e0,hb,hg,hr⟩
 ·injection e0 with e1 e2 e3
  subst e1 e2 e3
  refine (AnyF.slices_SortFunc_none sortHt none 0 _ w).mono ?_
  rintro e w' ⟨rfl,rfl⟩
  refine ⟨rfl,l,List.Perm.refl _,?_,ho,fun B _=>Below.refl _ _⟩
  have:l=[]:=List.eq_nil_of_length_eq_zero (by omega)
  subst this
  exact List.Pairwise.nil
 ·injection e0 with e1 e2 e3
  subst e1 e3
  subst hlen
  have hH:=Zsz ho
  have hlt:g < w.heap.size:=(Array.getElem?_eq_some_iff.1 hg).1
  have hcon:=AnyQ.slices_SortFunc sortHt 4 agg35 size35 htE htL Zmv cfH swoH 209 #[] g 0 c l.toArray w (enters_of Tryz.func209 (by kernel_rfl) rfl) (fun _ _ _ _ x y=>Zmw x y _) hH hlt (by simpa using hn)
  refine hcon.mono ?_
  rintro e w' ⟨rfl,d',m,os,hp,hs,rfl⟩
  have hp':=Zvf hp
  have hsz:d'.size=l.length:=by have:=hp.1;simpa using this
  have hs':=Zpl (d:=d') (by rw [hsz];simpa using hs)
  refine ⟨rfl,d'.toList,by simpa using hp',hs',?_,fun B hB=>?_⟩
  ·unfold sortWorldK putRowK
   have hf:=Zix d'.toList
   rw [Array.toArray_toList] at hf
   rw [hf]
   exact Zd (Zpk ho (by rw [Y7 htL,Y7 htL];simp [hsz])) (Ziy _ _)
  ·unfold sortWorldK putRowK
   exact Below.trans (Lib.below_putRow (Below.refl B w) (Nat.le_trans hB hb)) ((Ziy _ _).mono (by simp [putRow,mapBlock,Sort.ahead];omega))
end Go.Proofs.YtkelafkbmnjpeaaGreat
namespace Go.Proofs.YtkelafkbmnjpeaaGreat
open Go.RowKit
def OffR (n₀:Nat) (R:Nat→Prop) (A B:World):Prop:=Zc (fun k=>n₀≤k∧¬ R k) A B
def Zfg {α:Type} (P:Program) (n:Nat) (g:Nat) (lb:Array Value) (encs:α→Array Value) (Gd:List α→α→Prop) (Dead:Nat→Prop) (S:List α→Prop) (w:World):Prop :=
 ∀ (l:Nat) (J Jx:List α→(Nat→Prop)→World→Prop) (W:World) (R0:Nat→Prop),Grows w W→(∀ k,R0 k→¬ Dead k) →
  (∀ s R A,J s R A→∀ k,R k→k < A.heap.size) →
  (∀ s R A B,J s R A→OffR W.heap.size R A B→J s R B)→(∀ s R A B,Jx s R A→OffR W.heap.size R A B→Jx s R B) →
  (∀ pre R x W1,J pre R W1→Gd pre x→YieldAt Fence.wide n P l (encs x) W1 fun e W' =>
    ∃ R',(∀ k,R' k→R k∨W1.heap.size≤k)∧Zc R W1 W'∧((e=.returned (.bool true)∧J (pre++[x]) R' W')∨(e=.returned (.bool false)∧Jx (pre++[x]) R' W'))) →
  J [] R0 W →
  CallsIn Fence.wide n P g (#[.func (.yield l) #[] #[]]++lb) W fun e W'=>(∃ v,e=.returned v)∧((∃ xs R,S xs∧J xs R W')∨(∃ pre R,Jx pre R W'))
def leftR {α:Type} (R:Nat→Prop) (N:Nat) (I Ix:List α→(Nat→Prop)→World→Prop) (xs:List α) (W:World):Exit→Act→World→Prop
 | .normal,_,W'=>∃ R',(∀ k,R' k→R k∨N≤k)∧Zc (fun k=>R k∨N≤k) W W'∧I xs R' W'
 | .ret,_,W'=>∃ R',(∀ k,R' k→R k∨N≤k)∧Zc (fun k=>R k∨N≤k) W W'∧Ix xs R' W'
 | _,_,_=>False
theorem Ziz {α:Type} {P:Program} {n:Nat} {g:Operand} {ps:Array Tmp} {assign body:Code} {Q:Exit→Act→World→Prop} {a:Act} {w:World}
 {gf:Nat} {lb:Array Value} (hg:a.eval g=.func (.func gf) #[] lb) (eg:∀ args w,(callFunc gf args).run P w=.ok (.enter gf args) w)
 {encs:α→Array Value} {Gd:List α→α→Prop} {Dead:Nat→Prop} {S:List α→Prop} (hseq:Zfg P (n - 1) gf lb encs Gd Dead S w) (hps:∀ x,(encs x).size=ps.size)
 (R0:Nat→Prop) (hdead:∀ k,Dead k→k < w.heap.size∧¬ R0 k)
 (I Ix:List α→(Nat→Prop)→World→Prop) (hlt:∀ s R A,I s R A→∀ k,R k→k < A.heap.size)
 (hI:∀ s R A B,I s R A→OffR w.heap.size R A B→I s R B) (hIx:∀ s R A B,Ix s R A→OffR w.heap.size R A B→Ix s R B) (h0:I [] R0 w)
 (hround:∀ (l:Nat) (pre:List α) (R:Nat→Prop) (x:α) (W:World),w.heap.size+1 < W.heap.size→I pre R W→Gd pre x →
   assign.wpIn (Fence.wide.inRound l) (n - 1) P (Exit.then (fun a₁ Wa=>Grows W Wa∧∀ Wb,Zc (fun k=>k=w.heap.size+1) Wa Wb→I pre R Wb →
    body.wpIn (Fence.wide.inRound l) (n - 1) P (leftR R W.heap.size I Ix (pre++[x]) Wb) a₁ Wb) (fun _ _ _=>False)) { tmps:=(ps.zip (encs x)).foldl (fun t (p,v)=>t.setIfInBounds p v) a.tmps,defers:=[] } W)
 (hdone:∀ (D:Nat) (xs:List α) (R:Nat→Prop) (W:World),w.heap.size≤D→¬ R D→S xs→I xs R W→W.heap[D]?=some (.deferred (some []))→Q .normal { a with defers:={ target:=.collected D,args:=#[] } :: a.defers } W)
 (hstop:∀ (D:Nat) (pre:List α) (R:Nat→Prop) (W:World),w.heap.size≤D→¬ R D→Ix pre R W→W.heap[D]?=some (.deferred (some []))→Code.ret.wpIn Fence.wide n P Q { a with defers:={ target:=.collected D,args:=#[] } :: a.defers } W) :
 (Code.rangeFunc g ps assign body).wpIn Fence.wide n P Q a w:=by
 refine wpIn_rangeFunc fun fn _=>?_
 rw [show Fence.wide.round=none from rfl]
 obtain ⟨rec,hrec⟩:∃ rec:LoopState→Option Code→Loop,rec=fun st pe=>{ state:=st,pending:=pe,fn,tmps:=a.tmps,params:=ps,assign,body,defers:=w.heap.size }:=⟨_,rfl⟩
 have hrun:=run_enterLoop_outer (P:=P) (w:=w) fn a.tmps ps assign body
 rw [show ({ state:=.ready,pending:=none,fn,tmps:=a.tmps,params:=ps,assign,body,defers:=w.heap.size }:Loop)=rec .ready none by rw [hrec]] at hrun
 have hD0:((w.alloc (.deferred (some []))).alloc (.loop (rec .ready none))).heap[w.heap.size]?=some (.deferred (some [])):=(Below.heap_alloc _ _ _ (by simp)).trans (World.alloc_heap_new w _)
 have hL0:((w.alloc (.deferred (some []))).alloc (.loop (rec .ready none))).heap[w.heap.size+1]?=some (.loop (rec .ready none)):=by
  have:=World.alloc_heap_new (w.alloc (.deferred (some []))) (.loop (rec .ready none));rwa [World.size_alloc] at this
 have hG0:Grows w ((w.alloc (.deferred (some []))).alloc (.loop (rec .ready none))):=((Below.refl _ w).alloc (Nat.le_refl _) _).alloc (by simp) _
 generalize (w.alloc (.deferred (some []))).alloc (.loop (rec .ready none))=V at *
 have hVs:w.heap.size+1 < V.heap.size:=(Array.getElem?_eq_some_iff.1 hL0).1
 refine ⟨w.heap.size+1,_,V,{ target:=.fn (.func gf) lb,args:=#[.func (.yield (w.heap.size+1)) #[] #[]] },V,gf,#[.func (.yield (w.heap.size+1)) #[] #[]]++lb,V,hrun,?_,fun _ _=>trivial,?_,(fun h=>by cases h),?_⟩
 ·simp only [resolve,hg]
  simp [go_sem]
 ·simp [invoke,go_sem,eg]
 have hR0:∀ k,R0 k→k < w.heap.size:=hlt _ _ _ h0
 -- what the rounds own: the body's own, the loop's record, the block for deferred calls
 refine (hseq (w.heap.size+1)
  (fun s R A=>∃ R1,(∀ k,R k↔R1 k∨k=w.heap.size∨k=w.heap.size+1)∧¬ R1 w.heap.size∧¬ R1 (w.heap.size+1)∧I s R1 A∧A.heap[w.heap.size+1]?=some (.loop (rec .ready none))∧A.heap[w.heap.size]?=some (.deferred (some [])))
  (fun s R A=>∃ R1,(∀ k,R k↔R1 k∨k=w.heap.size∨k=w.heap.size+1)∧¬ R1 w.heap.size∧¬ R1 (w.heap.size+1)∧Ix s R1 A∧A.heap[w.heap.size+1]?=some (.loop (rec .done (some .ret)))∧A.heap[w.heap.size]?=some (.deferred (some [])))
  V (fun k=>R0 k∨k=w.heap.size∨k=w.heap.size+1) hG0 ?_ ?_ ?_ ?_ ?_ ⟨R0,fun k=>Iff.rfl,fun h=>by have:=hR0 _ h;omega,fun h=>by have:=hR0 _ h;omega,hI _ _ _ _ h0 (Zc.grows hG0),hL0,hD0⟩).mono ?_
 ·rintro k (h | h | h) hd
  ·exact (hdead k hd).2 h
  ·have:=(hdead k hd).1;omega
  ·have:=(hdead k hd).1;omega
 ·rintro s R A ⟨R1,h1,_,_,h2,h3,h4⟩ k hk
  rcases (h1 k).1 hk with h | rfl | rfl
  ·exact hlt _ _ _ h2 k h
  ·exact (Array.getElem?_eq_some_iff.1 h4).1
  ·exact (Array.getElem?_eq_some_iff.1 h3).1
 ·rintro s R A B ⟨R1,h1,a1,a2,h2,h3,h4⟩ hs
  refine ⟨R1,h1,a1,a2,hI _ _ _ _ h2 (Zc.wider hs fun k _ hk=>⟨by omega,fun h=>hk.2 ((h1 k).2 (.inl h))⟩),?_,?_⟩
  ·exact (Zc.same hs _ (Array.getElem?_eq_some_iff.1 h3).1 fun h=>h.2 ((h1 _).2 (.inr (.inr rfl)))).trans h3
  ·exact (Zc.same hs _ (Array.getElem?_eq_some_iff.1 h4).1 fun h=>h.2 ((h1 _).2 (.inr (.inl rfl)))).trans h4
 ·rintro s R A B ⟨R1,h1,a1,a2,h2,h3,h4⟩ hs
  refine ⟨R1,h1,a1,a2,hIx _ _ _ _ h2 (Zc.wider hs fun k _ hk=>⟨by omega,fun h=>hk.2 ((h1 k).2 (.inl h))⟩),?_,?_⟩
  ·exact (Zc.same hs _ (Array.getElem?_eq_some_iff.1 h3).1 fun h=>h.2 ((h1 _).2 (.inr (.inr rfl)))).trans h3
  ·exact (Zc.same hs _ (Array.getElem?_eq_some_iff.1 h4).1 fun h=>h.2 ((h1 _).2 (.inr (.inl rfl)))).trans h4
 ·rintro pre R x W ⟨R1,h1,a1,a2,hi,hl,hd⟩ hgd
  have hsz:w.heap.size+1 < W.heap.size:=(Array.getElem?_eq_some_iff.1 hl).1
  have hy:=run_yield (P:=P) (args:=encs x) hl (by rw [hrec];exact hps x)
  rw [hrec] at hy
  refine ⟨fn,_,assign,body,hy,roundIn_of_wpIn trivial (wpIn_mono (hround _ pre R1 x W hsz hi hgd) ?_)⟩
  intro e a₁ Wa he
  cases e <;> first | exact he.elim | skip
  obtain ⟨hga,hbody⟩:=he
  have hl2:=(hga.block _ (Array.getElem?_eq_some_iff.1 hl).1).trans hl
  have hd2:=(hga.block _ (Array.getElem?_eq_some_iff.1 hd).1).trans hd
  refine ⟨_,run_beginRound hl2 (by rw [hrec]),?_⟩
  have hsz2:w.heap.size+1 < Wa.heap.size:=(Array.getElem?_eq_some_iff.1 hl2).1
  have hl3:(Wa.putObj (w.heap.size+1) (.loop { rec .ready none with state:=.busy })).heap[w.heap.size+1]?=some (.loop { rec .ready none with state:=.busy }):=World.putObj_heap_same hsz2
  have hd3:(Wa.putObj (w.heap.size+1) (.loop { rec .ready none with state:=.busy })).heap[w.heap.size]?=some (.deferred (some [])):=(World.putObj_heap_other (by omega)).trans hd2
  have put:∀ (A:World) (o:Obj),Zc (fun k=>k=w.heap.size+1) A (A.putObj (w.heap.size+1) o):=fun A o=>⟨rfl,rfl,rfl,by simp,fun k _ hk=>World.putObj_heap_other hk⟩
  have hsp:=put Wa (.loop { rec .ready none with state:=.busy })
  generalize Wa.putObj (w.heap.size+1) (.loop { rec .ready none with state:=.busy })=Wb at *
  have hib:I pre R1 Wb:=hI _ _ _ _ (hI _ _ _ _ hi (Zc.grows hga)) (Zc.wider hsp fun k _ hk=>by subst hk;exact ⟨by omega,a2⟩)
  refine wpIn_mono (hbody _ hsp hib) ?_
  have fin:∀ (jump:Option Code) (W':World),Zc (fun k=>R1 k∨W.heap.size≤k) Wb W' →
   (Instr.endRound (w.heap.size+1) jump).run P W'=.ok (.bool jump.isNone) (W'.putObj (w.heap.size+1) (.loop (rec (if jump.isNone then .ready else .done) jump))) ∧
   Zc R W (W'.putObj (w.heap.size+1) (.loop (rec (if jump.isNone then .ready else .done) jump))) ∧
   (W'.putObj (w.heap.size+1) (.loop (rec (if jump.isNone then .ready else .done) jump))).heap[w.heap.size+1]?=some (.loop (rec (if jump.isNone then .ready else .done) jump)) ∧
   (W'.putObj (w.heap.size+1) (.loop (rec (if jump.isNone then .ready else .done) jump))).heap[w.heap.size]?=some (.deferred (some [])):=fun jump W' hs=>by
   have k1:=(hs.same _ (Array.getElem?_eq_some_iff.1 hl3).1 (fun h=>by
    rcases h with h | h
    ·exact a2 h
    ·omega)).trans hl3
   have k2:=(hs.same _ (Array.getElem?_eq_some_iff.1 hd3).1 (fun h=>by
    rcases h with h | h
    ·exact a1 h
    ·omega)).trans hd3
   have hr:=run_endRound (P:=P) jump k1
   rw [hrec] at hr k1 ⊢
   refine ⟨hr,?_,World.putObj_heap_same (Array.getElem?_eq_some_iff.1 k1).1,(World.putObj_heap_other (by omega)).trans k2⟩
   have c1:Zc (fun k=>R k∨W.heap.size≤k) W Wa:=Zc.grows hga
   have c2:Zc (fun k=>R k∨W.heap.size≤k) Wa Wb:=Zc.wider hsp fun k _ hk=>.inl ((h1 k).2 (.inr (.inr hk)))
   have c3:Zc (fun k=>R k∨W.heap.size≤k) Wb W':=Zc.wider hs fun k _ hk=>hk.imp (fun h=>(h1 k).2 (.inl h)) id
   have c4:Zc (fun k=>R k∨W.heap.size≤k) W' (W'.putObj (w.heap.size+1) (.loop ((fun st pe=>{ state:=st,pending:=pe,fn,tmps:=a.tmps,params:=ps,assign,body,defers:=w.heap.size }:LoopState→Option Code→Loop) (if jump.isNone then .ready else .done) jump))):=Zc.wider (put _ _) fun k _ hk=>.inl ((h1 k).2 (.inr (.inr hk)))
   exact Zc.wider (c1.trans (c2.trans (c3.trans c4))) fun k hk h=>h.elim id fun h=>by omega
  have sub:∀ {R':Nat→Prop},(∀ k,R' k→R1 k∨W.heap.size≤k)→(∀ k,(R' k∨k=w.heap.size∨k=w.heap.size+1)→R k∨W.heap.size≤k)∧¬ R' w.heap.size∧¬ R' (w.heap.size+1):=fun hs=>by
   refine ⟨fun k hk=>?_,fun h=>?_,fun h=>?_⟩
   ·rcases hk with h | h | h
    ·exact (hs k h).imp (fun h=>(h1 k).2 (.inl h)) id
    ·exact .inl ((h1 k).2 (.inr (.inl h)))
    ·exact .inl ((h1 k).2 (.inr (.inr h)))
   ·rcases hs _ h with h | h
    ·exact a1 h
    ·omega
   ·rcases hs _ h with h | h
    ·exact a2 h
    ·omega
  intro e a₂ W' hp
  cases e <;> first | exact hp.elim | skip
  ·obtain ⟨R',hr',hs,hi'⟩:=hp
   obtain ⟨hr,hc,k1,k2⟩:=fin none W' hs
   obtain ⟨b1,b2,b3⟩:=sub hr'
   refine ⟨_,_,hr,fun k=>R' k∨k=w.heap.size∨k=w.heap.size+1,b1,hc,.inl ⟨rfl,R',fun k=>Iff.rfl,b2,b3,hI _ _ _ _ hi' (Zc.wider (put _ _) fun k _ hk=>by subst hk;exact ⟨by omega,b3⟩),k1,k2⟩⟩
  ·obtain ⟨R',hr',hs,hi'⟩:=hp
   obtain ⟨hr,hc,k1,k2⟩:=fin (some .ret) W' hs
   obtain ⟨b1,b2,b3⟩:=sub hr'
   refine ⟨_,_,hr,fun k=>R' k∨k=w.heap.size∨k=w.heap.size+1,b1,hc,.inr ⟨rfl,R',fun k=>Iff.rfl,b2,b3,hIx _ _ _ _ hi' (Zc.wider (put _ _) fun k _ hk=>by subst hk;exact ⟨by omega,b3⟩),k1,k2⟩⟩
 ·have put:∀ (A:World) (o:Obj),Zc (fun k=>k=w.heap.size+1) A (A.putObj (w.heap.size+1) o):=fun A o=>⟨rfl,rfl,rfl,by simp,fun k _ hk=>World.putObj_heap_other hk⟩
  rintro e W2 ⟨⟨v,rfl⟩,(⟨xs,R,hS,R1,h1,a1,a2,hi,hl,hd⟩ | ⟨pre,R,R1,h1,a1,a2,hi,hl,hd⟩)⟩
  ·have hr:(Instr.endLoop (w.heap.size+1)).run P W2=.ok none (W2.putObj (w.heap.size+1) (.loop { rec .ready none with state:=.exhausted })):=by
    have hr:=run_endLoop (P:=P) hl (by rw [hrec];simp)
    rw [hrec] at hr ⊢
    exact hr
   exact ⟨none,_,hr,hdone _ xs R1 _ (Nat.le_refl _) a1 hS (hI _ _ _ _ hi (Zc.wider (put _ _) fun k _ hk=>by subst hk;exact ⟨by omega,a2⟩)) ((World.putObj_heap_other (by omega)).trans hd)⟩
  ·have hr:(Instr.endLoop (w.heap.size+1)).run P W2=.ok (some .ret) (W2.putObj (w.heap.size+1) (.loop { rec .done (some .ret) with state:=.exhausted })):=by
    have hr:=run_endLoop (P:=P) hl (by rw [hrec];simp)
    rw [hrec] at hr ⊢
    exact hr
   exact ⟨some .ret,_,hr,hstop _ pre R1 _ (Nat.le_refl _) a1 (hIx _ _ _ _ hi (Zc.wider (put _ _) fun k _ hk=>by subst hk;exact ⟨by omega,a2⟩)) ((World.putObj_heap_other (by omega)).trans hd)⟩
end Go.Proofs.YtkelafkbmnjpeaaGreat
set_option maxHeartbeats 8000000
set_option maxRecDepth 100000
namespace Go.Proofs.YtkelafkbmnjpeaaGreat
open Go.Lib (hid)
open Go.RowKit Go.Shelf Go.Maps Go.Sort
attribute [local go_sem] Oper.semAt_some
theorem Zfg.later {α:Type} {P:Program} {n g:Nat} {lb:Array Value} {encs:α→Array Value} {Gd:List α→α→Prop} {Dead:Nat→Prop} {S:List α→Prop} {w w':World} (h:Zfg P n g lb encs Gd Dead S w) (hg:Grows w w'):Zfg P n g lb encs Gd Dead S w' :=
 fun l J Jx W R0 hW=>h l J Jx W R0 (Grows.trans hg hW)
structure Zha (w:World) (pre:List Ht) (R:Nat→Prop) (W:World):Prop where
 list:∃ A c,Boxed W w.heap.size 78 (.slice A pre.length c)∧W.ownsRow (w.heap.size+1) 167 4 (.slice A pre.length c) pre.length (pre.flatMap htE)∧∀ k,R k↔k=w.heap.size∨(Value.slice A pre.length c).ownBlock=some k
 few:0≤pre.length
 low:Below w.heap.size w W
theorem Zha.lt {w:World} {pre:List Ht} {R:Nat→Prop} {W:World} (h:Zha w pre R W):∀ k,R k→w.heap.size≤k∧k < W.heap.size:=by
 obtain ⟨⟨A,c,h1,h2,h3⟩,_,_⟩:=h
 intro k hk
 rcases (h3 k).1 hk with rfl | hk
 ·exact ⟨Nat.le_refl _,h1.lt⟩
 ·have:=Zbd h2 hk;omega
theorem Zha.keep {w:World} {N:Nat} {pre:List Ht} {R:Nat→Prop} {W W':World} (h:Zha w pre R W) (hN:w.heap.size≤N) (hs:OffR N R W W'):Zha w pre R W':=by
 obtain ⟨⟨A,c,h1,h2,h3⟩,h4,h5⟩:=h
 refine ⟨⟨A,c,(Zc.same hs _ h1.lt fun h=>h.2 ((h3 _).2 (.inl rfl))).trans h1,Zbv h2 fun k hk=>Zc.same hs k (Zbd h2 hk).2 fun h=>h.2 ((h3 k).2 (.inr hk)),h3⟩,h4,Below.trans h5 ?_⟩
 exact ⟨hs.os,hs.tape,hs.output,hs.size,fun k hk=>Zc.same hs k (Nat.lt_of_lt_of_le hk h5.size) fun h=>by omega⟩
theorem Zj0 (g:Nat) (lb:Array Value) (Dead:Nat→Prop) (K:Nat) (hK1:K≤1000000) (S:List Ht→Prop) (w:World) (hseq:∀ n,Zfg Tryz.prog n g lb (fun p:Ht=>#[htV p]) (fun pre _=>pre.length < K) Dead S w) (hdead:∀ k,Dead k→k < w.heap.size)
 (eg:∀ args w,(callFunc g args).run Tryz.prog w=.ok (.enter g args) w) :
 Calls Tryz.prog 305 #[.slice none 0 0,.func (.func g) #[] lb] w fun e w'=>∃ A c xs,S xs∧e=.returned (.slice A xs.length c)∧w'.ownsRow w.heap.size 167 4 (.slice A xs.length c) xs.length (xs.flatMap htE)∧Below w.heap.size w w':=by
 obtain ⟨W1,hW1⟩:∃ W1,w.alloc (.cells #[.slice none 0 0] 78)=W1:=⟨_,rfl⟩
 have g1:Grows w W1:=hW1 ▸ Za _ _
 have s1:W1.heap.size=w.heap.size+1:=by rw [←hW1,World.size_alloc]
 have b1:Boxed W1 w.heap.size 78 (.slice none 0 0):=by rw [←hW1];exact Boxed.new _ _ _
 have h0:Zha w [] (fun k=>k=w.heap.size) W1:=⟨⟨none,0,b1,World.ownsRow_nil _ _ _ _,fun k=>⟨.inl,fun h=>h.elim id fun h=>by cases h⟩⟩,Nat.zero_le _,g1⟩
 have H0:=hid h0
 have HG:=hid (fun n=>(hseq n).later g1)
 have HD:=hid hdead
 have S1:=hid s1
 clear h0 b1 g1 hseq hdead s1
 refine (callsIn_wide (n:=3)).1 ?_
 refine callsIn_of_wp_marks Tryz.func305 rfl trivial ?_ rfl
 simp only [Tryz.ntmps305,List.size_toArray,List.length_cons,List.length_nil,Nat.reduceAdd,Nat.reduceSub,Array.replicate_succ,Array.replicate_zero,List.push_toArray,List.append_toArray,List.nil_append,List.cons_append]
 gi_wp2_with (first | rw [hW1] | fail)
 refine Ziz (gf:=g) (lb:=lb) rfl eg (HG.out 2) (fun _=>rfl) (fun k=>k=w.heap.size) ?dead (Zha w) (fun _ _ _=>False) (fun s R A' h k hk=>(h.lt k hk).2)
  (fun s R A' B' h hs=>h.keep (by rw [S1.out];omega) hs) (fun _ _ _ _ h _=>h) H0.out ?round ?done (fun _ _ _ _ _ _ h _=>h.elim)
 case dead=>exact fun k hk=>⟨by have:=HD.out k hk;rw [S1.out];omega,fun e=>by have:=HD.out k hk;omega⟩
 case round =>
  rintro l pre R ⟨pk,ps,pa,pz⟩ W hsz hi hgd
  dsimp only [htV]
  gi_wp2_with (fail)
  obtain ⟨Wa,hWa⟩:∃ Wa,W.alloc (.cells #[.int .i64 pk,.string ⟨ps.toArray⟩,.int .i64 pa,.int .i64 pz] 167)=Wa:=⟨_,rfl⟩
  rw [hWa]
  have ga:Grows W Wa:=hWa ▸ Za _ _
  have sa:Wa.heap.size=W.heap.size+1:=by rw [←hWa,World.size_alloc]
  have hv:Whole Wa W.heap.size 167 #[.int .i64 pk,.string ⟨ps.toArray⟩,.int .i64 pa,.int .i64 pz]:=by rw [←hWa];exact Whole.made _ _ _
  refine ⟨ga,fun Wb hsp hib=>?_⟩
  obtain ⟨⟨A,c,hb,ho,hR⟩,hle,hlow⟩:=hib
  have hlt:=hi.lt
  have hvb:Whole Wb W.heap.size 167 #[.int .i64 pk,.string ⟨ps.toArray⟩,.int .i64 pa,.int .i64 pz]:=(hsp.same _ hv.lt (by omega)).trans hv
  have c1:=hb.cell
  have e0:=hvb.cell 0
  have e1:=hvb.cell 1
  have e2:=hvb.cell 2
  have e3:=hvb.cell 3
  simp only [Gt] at e0 e1 e2 e3
  obtain ⟨i0,hi0,hz0,hz1,hz2⟩:=Zsw infoHt
  have HI:=hid (And.intro hi0 (And.intro hz0 (And.intro hz1 hz2)))
  have HB:=hid (And.intro hb (And.intro ho (And.intro hR (And.intro hlow (And.intro hlt (And.intro sa (And.intro hsz hsp.size)))))))
  have HGD:=hid hgd
  clear hb ho hR hle hlow hv hvb hi0 hz0 hz1 hz2 hi ga hlt hsz sa hsp hgd
  gi_wp2_with (first
   | (gi_at_builtin
      refine Ze4 rfl (.tmp 8) (.tmp 10) 78 rfl (w.heap.size+1) 167 i0 (.agg #[.int .i64 0,.string ⟨#[]⟩,.int .i64 0,.int .i64 0]) 4 40 Tryz.underlying78 HI.out.1 HI.out.2.1 HI.out.2.2.1 HI.out.2.2.2 rfl (by decide) (.slice A pre.length c) pre.length (pre.flatMap htE) rfl
       (Zd HB.out.2.1 (Za _ _)) ⟨Wb.heap.size,0,none⟩ 1 1 (htE ⟨pk,ps,pa,pz⟩) rfl rfl (ht_at (x:=⟨pk,ps,pa,pz⟩) (Whole.made Wb _ _)) (Zmv _) (by unfold maxLen;have:=HGD.out;omega) (by have:=HGD.out;omega) (by rw [World.size_alloc];have:=HB.out.2.2.2.1.size;have:=HB.out.1.lt;omega) ?_
      intro A1 cap1 w1 hown1 hgrow1 hdj
      have y4:Boxed w1 w.heap.size 78 (.slice A pre.length c):=(hgrow1.block _ (by rw [World.size_alloc];have:=HB.out.1.lt;omega) (fun e=>by have:=Zbd HB.out.2.1 e.symm;omega)).trans ((Za _ _).block _ HB.out.1.lt |>.trans HB.out.1)
      have z4:=y4.cell
      have z5:=y4.frozen
      have HY4:=hid y4
      have HOWN1:=hid (And.intro hown1 (And.intro hgrow1 hdj))
      clear y4 hown1 hgrow1 hdj)
   | fail)
  obtain ⟨hb,ho,hR,hlow,hlt,sa,hsz,hspz⟩:=HB.out
  obtain ⟨hown1,hgrow1,hdj⟩:=HOWN1.out
  obtain ⟨Y,hY⟩:∃ Y,w1.setCell ⟨w.heap.size,0,none⟩ (.slice A1 (pre.length+1) cap1)=Y:=⟨_,rfl⟩
  rw [hY]
  have hsY:Y.heap.size=w1.heap.size:=by rw [←hY];simp [World.setCell]
  have hsw:Wb.heap.size+1≤w1.heap.size:=by have:=hgrow1.size;rwa [World.size_alloc] at this
  have hR0:R w.heap.size:=(hR _).2 (.inl rfl)
  have hsY2:Zc (fun k=>R k∨W.heap.size≤k) Wb Y:=by
   rw [←hY]
   exact ((Zc.grows (Za _ _)).grown hgrow1 (fun k hk=>.inl ((hR k).2 (.inr hk)))).setCell (.inl hR0) _
  have hsub:∀ k,(k=w.heap.size∨(Value.slice A1 (pre.length+1) cap1).ownBlock=some k)→R k∨W.heap.size≤k:=fun k hk=>by
   rcases hk with rfl | hk
   ·exact .inl hR0
   ·rcases hdj with h | h
    ·exact .inl ((hR k).2 (.inr (h ▸ hk)))
    ·rw [h,World.size_alloc] at hk
     injection hk with hk
     right;omega
  refine ⟨fun k=>k=w.heap.size∨(Value.slice A1 (pre.length+1) cap1).ownBlock=some k,hsub,hsY2,⟨A1,cap1,?_,?_,?_⟩,?_,?_⟩
  ·rw [List.length_append,List.length_singleton,←hY]
   exact Whole.put (show Whole w1 w.heap.size _ #[_] from HY4.out) 0 _
  ·rw [List.length_append,List.length_singleton,Zlf,←hY]
   refine Zbv hown1 fun k hk=>Below.heap_setCell _ _ _ _ ?_
   have:=(Zbd hown1 hk).1
   dsimp only
   omega
  ·intro k
   rw [List.length_append,List.length_singleton]
  ·rw [List.length_append,List.length_singleton]
   have:=HGD.out
   omega
  ·exact ⟨hsY2.os.trans hlow.os,hsY2.tape.trans hlow.tape,hsY2.output.trans hlow.output,Nat.le_trans hlow.size hsY2.size,fun k hk=>(hsY2.same k (Nat.lt_of_lt_of_le hk hlow.size) fun h=>h.elim (fun h=>by have:=(hlt k h).1;omega) fun h=>by have:=(hlt _ hR0).2;omega).trans (hlow.block k hk)⟩
 case done =>
  intro D xs R W hD hnD hS hi hK
  have HSS:=hid hS
  clear hS
  obtain ⟨⟨A,c,hb,ho,hR⟩,hle,hlow⟩:=hi
  have c1:=hb.cell
  have HA:=hid (And.intro ho (And.intro hR (And.intro hlow (And.intro hK (And.intro hD hnD)))))
  clear hb ho hR hle hlow hK hD hnD
  gi_wp2_with (fail)
  obtain ⟨ho,hR,hlow,hK,hD,hnD⟩:=HA.out
  have hDs:Zc (fun k=>k=D) W (W.putObj D (.deferred none)):=⟨rfl,rfl,rfl,by simp,fun k _ hk=>World.putObj_heap_other hk⟩
  refine ⟨by simp,.inl ⟨_,_,rfl,run_takeDeferred hK,?_⟩⟩
  refine ⟨.slice A xs.length c,by simp [results,Tryz.results305,go_sem],A,c,xs,HSS.out,rfl,Zg (Zbv ho fun k hk=>hDs.same k (Zbd ho hk).2 fun e=>hnD ((hR D).2 (.inr (e ▸ hk)))) (by omega),?_⟩
  exact ⟨hlow.os,hlow.tape,hlow.output,Nat.le_trans hlow.size hDs.size,fun k hk=>(hDs.same k (Nat.lt_of_lt_of_le hk hlow.size) fun e=>by have:=S1.out;omega).trans (hlow.block k hk)⟩
theorem Zms (g:Nat) (lb:Array Value) (Dead:Nat→Prop) (K:Nat) (hK1:K≤1000000) (S:List Ht→Prop) (w:World) (hseq:∀ n,Zfg Tryz.prog n g lb (fun p:Ht=>#[htV p]) (fun pre _=>pre.length < K) Dead S w) (hdead:∀ k,Dead k→k < w.heap.size)
 (eg:∀ args w,(callFunc g args).run Tryz.prog w=.ok (.enter g args) w) :
 Calls Tryz.prog 268 #[.func (.func g) #[] lb] w fun e w'=>∃ A c xs,S xs∧e=.returned (.slice A xs.length c)∧w'.ownsRow w.heap.size 167 4 (.slice A xs.length c) xs.length (xs.flatMap htE)∧Below w.heap.size w w':=by
 have HA:=hid (Zj0 g lb Dead K hK1 S w hseq hdead eg)
 clear hseq hdead
 go_enter Tryz.func268,Tryz.ntmps268
 go_wp2_with (fail)
 refine HA.out.mono ?_
 rintro e w' ⟨A,c,xs,hS,rfl,h1,h2⟩
 have H1:=hid (And.intro h1 (And.intro h2 hS))
 clear h1 h2 hS
 go_wp2_with (fail)
 go_ret
 exact ⟨A,c,xs,H1.out.2.2,rfl,H1.out.1,H1.out.2.1⟩
theorem Zmt {P:Program} {n k l f:Nat} {tmps:Array Value} {assign body:Code} {w:World} {R:Ending→World→Prop} (h:RoundIn Fence.wide n P l f tmps assign body w R):RoundIn Fence.wide k P l f tmps assign body w R :=
 ⟨h.1,fun c cs _=>h.2 c cs fun d hd=>by cases hd⟩
theorem Zpj (b:Nat) (w:World):Calls Tryz.prog 208 #[.map (some b)] w fun e w' =>
 e=.returned (.func (.func 270) #[] #[.pointer (some ⟨w.heap.size,0,none⟩)])∧w.alloc (.cells #[.map (some b)] 238)=w':=by
 go_enter Tryz.func208,Tryz.ntmps208
 go_wp2_with (fail)
 go_ret
 exact ⟨rfl,rfl⟩
abbrev OwnsH (w:World) (b nn:Nat) (hs:List Ht):Prop:=w.ownsMap Tryz.prog 9 (htR (H:=Unit)) b nn (encH hs)
theorem Zld {w w':World} {b r nn cnt:Nat} {D:DataW Unit} {left:Lit→Bool} (h:w.ranges Tryz.prog 9 (htR (H:=Unit)) b r nn D left cnt) (hb:w'.heap[b]?=w.heap[b]?) (hr:w'.heap[r]?=w.heap[r]?):w'.ranges Tryz.prog 9 (htR (H:=Unit)) b r nn D left cnt:=by
 obtain ⟨es,clock,since,seen,c0,h1,h2,h3,h4,h5,h6⟩:=h
 exact ⟨es,clock,since,seen,c0,hb.trans h1,h2,h3,h4,hr.trans h5,h6⟩
theorem Zxm {hs:List Ht} {x:List UInt8} {c:Ht} (hat:∀ zd:DataW Unit,(encH hs).atKey (.string x) zd=htD c):c∈hs∧c.key=x:=by
 have h1:=hat (htD c)
 rw [Zr4] at h1
 cases hf:hfind x hs with
 | some y =>
   rw [hf] at h1
   have h2:y=c:=Zr3 h1
   subst h2
   unfold hfind at hf
   exact ⟨List.mem_of_find?_eq_some hf,by simpa using List.find?_some hf⟩
 | none =>
   exfalso
   have h2:=hat (.lit (.bool true))
   rw [Zr4,hf] at h2
   exact absurd h2 (by unfold htD;simp)
theorem Zcn {w w':World} {b nn:Nat} {hs:List Ht} (h:OwnsH w b nn hs) (hb:w'.heap[b]?=w.heap[b]?):OwnsH w' b nn hs:=by
 obtain ⟨es,clock,h1,h2⟩:=h
 exact ⟨es,clock,hb.trans h1,h2⟩
theorem hJ0 {J:List Ht→(Nat→Prop)→World→Prop} {n0:Nat} (hJ:∀ (s:List Ht) (R:Nat→Prop) (A B:World),J s R A→OffR n0 R A B→J s R B) {s:List Ht} {R:Nat→Prop} {A B:World} (h:J s R A) (hs:Zc (fun k=>n0≤k∧¬ R k) A B):J s R B:=hJ _ _ _ _ h hs
theorem Zle (n B1 b nn:Nat) (hs:List Ht) (w:World) (hbx:Boxed w B1 238 (.map (some b))) (hown:OwnsH w b nn hs) (hrise:Zbc hs) :
 Zfg Tryz.prog n 270 #[.pointer (some ⟨B1,0,none⟩)] (fun x:Ht=>#[htV x]) (fun pre _=>pre.length < hs.length) (fun k=>k=B1∨k=b)
  (fun xs=>(xs.map (·.key)).Nodup∧(∀ h,h∈xs↔h∈hs)∧xs.length≤hs.length) w:=by
 intro l J Jx W R0 hW hD hlt hJ hJx hY h0
 have hbW:Boxed W B1 238 (.map (some b)):=(hW.block _ hbx.lt).trans hbx
 have cb:=hbW.cell
 have hbl:b < w.heap.size:=World.ownsMap.lt hown
 have hownW:OwnsH W b nn hs:=Zcn hown (hW.block b hbl)
 have HY:=hid hY
 have HJ:=hid hJ
 have HLT:=hid hlt
 have HW:=hid (And.intro hbW (And.intro hownW (Nat.lt_of_lt_of_le hbl hW.size)))
 have HD:=hid hD
 have HRI:=hid hrise
 clear hbx hown hW hY hbW hJ hD hlt hrise hbl
 show CallsIn _ _ _ _ #[.func (.yield l) #[] #[],.pointer (some ⟨B1,0,none⟩)] _ _
 refine callsIn_of_wp Tryz.func270 rfl trivial ?_ rfl
 simp only [Tryz.ntmps270,List.size_toArray,List.length_cons,List.length_nil,Nat.reduceAdd,Nat.reduceSub,Array.replicate_succ,Array.replicate_zero,List.push_toArray,List.append_toArray,List.nil_append,List.cons_append]
 gi_wp2_with (first
  | (gi_at_range;refine wpListIn_range_own _ rfl _ 238 rfl 9 167 (string_keyed Tryz.underlying9) Tryz.underlying238 _ b nn _ rfl hownW ?_;intro w0 hrg0 hg0 hs0)
  | gi_in)
 have HN0:=hid (And.intro (show Grows W w0 from ⟨hg0.os,hg0.tape,hg0.output,hg0.size,fun k hk=>hg0.block k hk (by simp)⟩) hs0)
 have h0':=hJ0 HJ.out h0 (Zc.grows HN0.out.1)
 have HRG0:=hid hrg0
 have HJ0:=hid h0'
 have HLT0:=hid (HLT.out _ _ _ h0)
 clear h0 h0' hg0 hs0 hownW
 gi_loopw [4] (fun _ wr=>∃ (left:Lit→Bool) (cnt:Nat) (pre:List Ht) (R:Nat→Prop),Hid (wr.ranges Tryz.prog 9 (htR (H:=Unit)) b W.heap.size nn (encH hs) left cnt)∧Hid (pre.length+cnt≤hs.length)∧Hid (Collected (encH (H:=Unit) hs) left (pre.map (·.key)))∧Hid (∀ x∈pre,x∈hs)∧Hid (J pre R wr)∧Hid (∀ k,R k→R0 k∨W.heap.size < k)∧Hid (W.heap.size < wr.heap.size))
  (fun _ wr=>wr.rangeLeft b W.heap.size)
 case atStart =>
  exact ⟨_,_,[],R0,HRG0,hid (by simp [Zr5]),hid (Collected.start (encH hs)),hid (fun x hx=>by cases hx),HJ0,hid (fun k hk=>.inl hk),hid (by rw [HN0.out.2];omega)⟩
 case round =>
  obtain ⟨left,cnt,pre,R,HRG,HCN,HC,HM,HJP,HRR,HSZ⟩:=hrel
  have hrg:=HRG.out
  gi_wp2_with (first
   | (gi_at_next;refine wpListIn_next_ranges _ rfl _ rfl 9 (string_keyed Tryz.underlying9) (htR (H:=Unit)) encStr htV (fun key kl hk=>by obtain ⟨x,hx,_⟩:=Maps.keyOf_str Tryz.underlying9 hk;exact ⟨x,hx⟩) (fun v y hv=>by obtain ⟨c,hc,_⟩:=Zr2 hv;exact ⟨c,hc⟩) b W.heap.size nn _ _ _ rfl hrg ?_ ?_)
   | gi_in)
  ·intro hc0 hl0
   have HL0:=hid hl0
   clear hl0
   gi_wp2_with (fail)
   go_end0
   refine ⟨⟨_,rfl⟩,.inl ⟨pre,R,⟨HC.out.1,fun h=>⟨HM.out h,fun hh=>?_⟩,by have:=HCN.out;omega⟩,HJP.out⟩⟩
   have hp:=HC.out.perm HRG.out.owns (string_keyed Tryz.underlying9) Tryz.underlying9 HL0.out
   rw [Zr6] at hp
   obtain ⟨x,hx,hk⟩:=List.mem_map.1 (hp.mem_iff.2 (List.mem_map.2 ⟨h,hh,rfl⟩))
   rw [←Zux HRI.out (HM.out x hx) hh hk]
   exact hx
  ·intro x c kl yd yp w2 cnt2 hkey hlk hv hat hrg2 hlt2 hg2 hs2 hen
   obtain ⟨x',ex,rfl,_⟩:=Maps.keyOf_str Tryz.underlying9 hkey
   obtain rfl:x=x':=encStr_inj ex
   obtain ⟨c',ec,ez⟩:=Zr2 hv
   have hcc:htD (H:=Unit) c=htD c':=by
    have h1:=Zv3 (H:=Unit) c
    rw [hv] at h1
    rw [Option.some.injEq] at h1
    exact ((Prod.mk.inj h1).1.symm.trans (Prod.mk.inj ez).1)
   obtain rfl:c=c':=Zr3 hcc
   obtain rfl:yd=htD c:=(Prod.mk.inj ez).1
   obtain ⟨hmem,hkc⟩:=Zxm hat
   have HQ:=hid (And.intro hmem hkc)
   have HRG2:=hid hrg2
   have HLT2:=hid hlt2
   have hRr:¬ R W.heap.size:=fun h=>by
    rcases HRR.out _ h with h | h
    ·exact absurd (HLT0.out _ h) (by omega)
    ·omega
   have HC2:=hid (show Collected (encH (H:=Unit) hs) (fun z=>left z&&!z.sameKey (.string x)) ((pre++[c]).map (·.key)) by
    have:=HC.out.step hlk hat
    rw [List.map_append,List.map_cons,List.map_nil,hkc]
    exact this)
   have hJ2:J pre R w2:=hJ0 HJ.out HJP.out ((Zc.refl _ wr).grown hg2 (fun k hk=>by cases hk;exact ⟨Nat.le_refl _,hRr⟩))
   have h2s:=HSZ.out
   obtain ⟨ck,cs,ca,cz⟩:=c
   obtain ⟨W1,hW1⟩:∃ W1,w2.alloc (.cells #[.int .i64 ck,.string ⟨cs.toArray⟩,.int .i64 ca,.int .i64 cz] 167)=W1:=⟨_,rfl⟩
   have hg1:Grows w2 W1:=hW1 ▸ Za _ _
   have hm1:Whole W1 w2.heap.size 167 #[.int .i64 ck,.string ⟨cs.toArray⟩,.int .i64 ca,.int .i64 cz]:=by rw [←hW1];exact Whole.made _ _ _
   have m0:=hm1.cell 0
   have m1:=hm1.cell 1
   have m2:=hm1.cell 2
   have m3:=hm1.cell 3
   simp only [Gt] at m0 m1 m2 m3
   have hJ1:J pre R W1:=hJ0 HJ.out hJ2 (Zc.grows hg1)
   have hpl:pre.length < hs.length:=by
    have h3:=HCN.out
    omega
   obtain ⟨fn,tmps,assign,body,hy,hR⟩:=HY.out pre R ⟨ck,cs,ca,cz⟩ W1 hJ1 hpl
   have HG1:=hid hg1
   have HRD:=hid hR
   have HZ:=hid (And.intro hs2 h2s)
   dsimp only [htV] at hy hen
   clear hRr hJ2 hJ1 hg1 hm1 hR hmem hkc hcc ez ec hv hat hlk hkey hrg2 hg2 hrg hpl h2s hs2 hlt2
   dsimp only [htV]
   gi_wp2_with (first | rw [hW1] | fail)
   clear hW1 m0 m1 m2 m3
   refine ⟨(fun h=>by cases h),RoundIn.mono (Zmt HRD.out) ?_⟩
   rintro e W' ⟨R',hr',hs',(⟨rfl,hj'⟩ | ⟨rfl,hjx⟩)⟩
   ·have HN2:=hid (And.intro hj' (And.intro hs' hr'))
    clear hj' hs' hr' HRD hy
    gi_wp2_with (fail)
    have hbR:¬ R b:=fun h=>by
     rcases HRR.out _ h with h | h
     ·exact HD.out _ h (.inr rfl)
     ·have:=HW.out.2.2;omega
    have hrR:¬ R W.heap.size:=fun h=>by
     rcases HRR.out _ h with h | h
     ·exact absurd (HLT0.out _ h) (by omega)
     ·omega
    have z1:=HZ.out
    have hbl:b < w2.heap.size:=by have:=HW.out.2.2;omega
    have hrl:W.heap.size < w2.heap.size:=by omega
    have hrg3:W'.ranges Tryz.prog 9 (htR (H:=Unit)) b W.heap.size nn (encH hs) _ cnt2:=Zld HRG2.out
     ((HN2.out.2.1.same b (Nat.lt_of_lt_of_le hbl HG1.out.size) hbR).trans (HG1.out.block b hbl))
     ((HN2.out.2.1.same W.heap.size (Nat.lt_of_lt_of_le hrl HG1.out.size) hrR).trans (HG1.out.block W.heap.size hrl))
    have hmeas:W'.rangeLeft b W.heap.size < wr.rangeLeft b W.heap.size:=by rw [hrg3.left_eq,HRG.out.left_eq];exact HLT2.out
    have hsz2:w2.heap.size≤W'.heap.size:=Nat.le_trans HG1.out.size HN2.out.2.1.size
    go_roundw
    case rel =>
     refine ⟨_,cnt2,pre++[⟨ck,cs,ca,cz⟩],R',hid hrg3,hid ?_,HC2,hid fun y hy=>?_,hid HN2.out.1,hid fun k hk=>?_,hid (by omega)⟩
     ·have:=HCN.out
      have:=HLT2.out
      rw [List.length_append,List.length_singleton]
      omega
     ·rcases List.mem_append.1 hy with h | h
      ·exact HM.out y h
      ·rw [List.mem_singleton.1 h];exact HQ.out.1
     ·rcases HN2.out.2.2 k hk with h | h
      ·exact HRR.out k h
      ·have:=HG1.out.size
       exact .inr (by omega)
    case measure=>exact hmeas
   ·gi_wp2_with (fail)
    refine bodyPost_ret (results_none rfl _ _ _) rfl ?_
    exact ⟨⟨_,rfl⟩,.inr ⟨_,_,hjx⟩⟩
end Go.Proofs.YtkelafkbmnjpeaaGreat
