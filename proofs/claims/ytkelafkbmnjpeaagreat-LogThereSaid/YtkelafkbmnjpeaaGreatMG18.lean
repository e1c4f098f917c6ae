/-
  Texts that the statements lean on, one behind the other.
-/
import Derived.Test.YtkelafkbmnjpeaaGreatMG00
import Derived.Test.YtkelafkbmnjpeaaGreatMG17
import Derived.Test.YtkelafkbmnjpeaaGreatMG10
import Derived.Shelf.Abstract
import Derived.Shelf.RegionOpen
import Derived.OwnWalkIn
import Derived.TacticsInMore
import Derived.LoopNIn
import Derived.LoopIn
import Derived.IntWalk
import Derived.Test.YtkelafkbmnjpeaaGreatMG15
import Derived.Test.YtkelafkbmnjpeaaGreatMG16
import Derived.Test.YtkelafkbmnjpeaaGreatMG11
import Derived.Lib.Bytealg
import Derived.Lib.SlicesCompact
import Derived.Sort.Walk0
set_option linter.unusedSimpArgs false
set_option linter.unusedVariables false
set_option maxHeartbeats 4000000
set_option maxRecDepth 100000
namespace Go.Proofs.YtkelafkbmnjpeaaGreat
open Go.Lib (hid)
open Go.RowKit Go.Shelf
attribute [local go_sem] Oper.semAt_some
theorem Zd3 (a k:Nat) (A:Option Addr) (m c:Nat) (w:World) (hk:k≤140737488351232) :
 Calls Tryz.prog 228 #[.agg #[.int .i64 (a:Nat),.int .i64 (k:Nat),.slice A m c]] w fun e w'=>e=.returned (.bool (decide (0 < k)))∧Grows w w':=by
 by_cases h:0 < k
 ·have hd:decide (0 < k)=true:=decide_eq_true h
  go_enter Tryz.func228,Tryz.ntmps228
  go_wp2_with (fail)
  go_ret
  exact ⟨by rw [hd];try rfl,Zb _ _⟩
 ·obtain rfl:k=0:=by omega
  go_enter Tryz.func228,Tryz.ntmps228
  go_wp2_with (fail)
  go_ret
  exact ⟨rfl,Zb _ _⟩
theorem Zno (A:Option Addr) (n c:Nat) (a0:Nat) (w:World) :
 Calls Tryz.prog 227 #[.slice A n c,.int .i64 (a0:Nat)] w fun e w'=>e=.returned (.func (.func 282) #[] #[.pointer (some ⟨w.heap.size+1,0,none⟩),.pointer (some ⟨w.heap.size,0,none⟩)]) ∧
  (w.alloc (.cells #[.slice A n c] 37)).alloc (.cells #[.int .i64 (a0:Nat)] 3)=w':=by
 go_enter Tryz.func227,Tryz.ntmps227
 go_wp2_with (fail)
 go_ret
 exact ⟨rfl,rfl⟩
theorem Zdr {P:Program} {n k l f:Nat} {tmps:Array Value} {assign body:Code} {w:World} {R:Ending→World→Prop} (h:RoundIn Fence.wide n P l f tmps assign body w R):RoundIn Fence.wide k P l f tmps assign body w R :=
 ⟨h.1,fun c cs _=>h.2 c cs fun d hd=>by cases hd⟩
abbrev Xv:=Ev×Option Addr×Nat
def xItem (x:Xv):Value:=.agg #[.int .i64 (x.1.1:Nat),.int .i64 (x.1.2.1:Nat),.slice x.2.1 x.1.2.2.1.length x.2.2]
def xVals (x:Xv):Array Value:=#[xItem x,.int .i64 (x.1.2.2.2:Nat)]
def Told (N a0:Nat) (pre:List Xv) (x:Xv) (W0 W1:World):Prop :=
 x.1.1=endE a0 (pre.map (·.1)) ∧
 W1.ownsRow W0.heap.size 5 1 (.slice x.2.1 x.1.2.2.1.length x.2.2) x.1.2.2.1.length (x.1.2.2.1.map byteV)∧x.1.1+x.1.2.1≤N∧(x.1.2.2.2=0∨x.1.2.2.2=21∨x.1.2.2.2=22)∧(x.1.2.2.2=0→9≤x.1.2.1)∧(x.1.2.1=0∨9≤x.1.2.1)
theorem Zjt (n:Nat) (n₀ Bf Bb:Nat) (A:Option Addr) (N c:Nat) (bs:List UInt8) (a0:Nat) (w:World) (hn₀:n₀≤w.heap.size) (hf:Boxed w Bf 3 (.int .i64 (a0:Nat))) (hb:Boxed w Bb 37 (.slice A N c))
 (hs:Sl w A N c bs) (hlow:Bytes w n₀ A N bs) (hN:N≤140737488351232) (ha:a0≤N) :
 Gives Tryz.prog n 282 #[.pointer (some ⟨Bf,0,none⟩),.pointer (some ⟨Bb,0,none⟩)] xVals (Told N a0) (fun k=>k < n₀∨k=Bb) (fun xs=>xs.map (·.1)=evB (bs.drop a0) a0) (fun pre=>pre.map (·.1) <+: evB (bs.drop a0) a0) w:=by
 intro l J Jx W hW hJ hJx hY h0
 have hl:=hs.len
 have hcap:=hs.cap
 have hbare:=hs.bare
 have hfW:Boxed W Bf 3 (.int .i64 (a0:Nat)):=(hW.block _ hf.lt).trans hf
 have hbW:Boxed W Bb 37 (.slice A N c):=(hW.block _ hb.lt).trans hb
 have hlowW:Bytes W n₀ A N bs:=hlow.below (hW.mono hn₀)
 have hn1:n₀≤W.heap.size:=Nat.le_trans hn₀ hW.size
 clear hs hlow hf hb hW hn₀
 have HN1:=hid hn1
 have HBARE:=hid hbare
 have hfc:=hfW.cell
 clear hn1 hbare hfW
 show CallsIn _ _ _ _ #[.func (.yield l) #[] #[],.pointer (some ⟨Bf,0,none⟩),.pointer (some ⟨Bb,0,none⟩)] _ _
 refine callsIn_of_wp Tryz.func282 rfl trivial ?_ rfl
 simp only [Tryz.ntmps282,List.size_toArray,List.length_cons,List.length_nil,Nat.reduceAdd,Nat.reduceSub,Array.replicate_succ,Array.replicate_zero,List.push_toArray,List.append_toArray,List.nil_append,List.cons_append]
 gi_wp2
 gi_loopw [4] (fun i wr=>∃ (pre:List Xv) (k:Nat),k≤N∧i=.int .i64 (k:Nat)∧Hid (pre.map (·.1)++evB (bs.drop k) k=evB (bs.drop a0) a0)∧Hid (k=endE a0 (pre.map (·.1)))∧J pre wr∧Hid (n₀≤wr.heap.size)∧Hid (Boxed wr Bb 37 (.slice A N c))∧Hid (Bytes wr n₀ A N bs)) (fun i _=>N - (intOf i).toNat)
 case atStart=>exact ⟨[],a0,ha,rfl,hid rfl,hid rfl,h0,HN1,hid hbW,hid hlowW⟩
 case round =>
  obtain ⟨pre,k,hk,rfl,HEV,HKE,hj,HNW,HB,HL⟩:=hrel
  have hcb:=HB.out.cell
  by_cases hlt:k < N
  ·obtain ⟨ad,rfl⟩:∃ ad,A=some ad:=by
    obtain ⟨ad,h,_⟩:=HL.out.spot (k:=0) (by omega)
    exact ⟨ad,h⟩
   have hck:¬ c=k:=by omega
   have hcap':(N:Int)≤(c:Int):=by omega
   have hk0:(0:Int)≤(k:Int):=by omega
   have hk1:(k:Int)≤(N:Int):=by omega
   have hslw:Sl wr (some ad) N c bs:=⟨HL.out.wider HNW.out,hcap,HBARE.out⟩
   have hpart:=hslw.part (k:=k) (m:=N) (by omega) (Nat.le_refl _) hck
   rw [List.take_of_length_le (by omega)] at hpart
   have HP:=hid hpart
   clear hslw hpart
   have hfe:=Zph (bs.drop k)
   have hfs:=Yq (bs:=bs.drop k) (y:=(Zi (bs.drop k)).1) (k:=(Zi (bs.drop k)).2.1) (e:=(Zi (bs.drop k)).2.2) rfl
   rw [List.length_drop,hl] at hfs
   have hne:bs.drop k≠[]:=fun h=>by have:=congrArg List.length h;rw [List.length_drop] at this;simp at this;omega
   have hev:=Za2 (bs:=bs.drop k) (y:=(Zi (bs.drop k)).1) (k:=(Zi (bs.drop k)).2.1) (e:=(Zi (bs.drop k)).2.2) hne rfl k
   rw [List.drop_drop] at hev
   have hcall:=Jk _ _ _ _ _ HP.out (by omega)
   generalize (Zi (bs.drop k)).1=y at *
   generalize (Zi (bs.drop k)).2.1=z at *
   generalize (Zi (bs.drop k)).2.2=er at *
   have HFE:=hid hfe
   have HFS:=hid hfs
   have HE:=hid hev
   have HNE:=hid hne
   have HC:=hid hcall
   clear hfe hfs hev hne hcall
   gi_wp2_with (fail)
   refine ⟨trivial,(fun h=>by cases h),(callsIn_wide.2 HC.out).mono ?_⟩
   rintro e w2 ⟨A2,m2,c2,rfl,hown2,hb2⟩
   obtain rfl:y.length=m2:=by have:=hown2.1;simp at this;omega
   have hgw:Grows wr w2:=hb2
   have hga:=Zb w2 (.cells #[.int .i64 (k:Nat),.int .i64 (z:Nat),.slice A2 y.length c2] 212)
   have htold:Told N a0 pre ((k,z,y,er),A2,c2) wr (w2.alloc (.cells #[.int .i64 (k:Nat),.int .i64 (z:Nat),.slice A2 y.length c2] 212)) :=
    ⟨HKE.out,Zd hown2 hga,by have:=HFS.out.1;dsimp only;omega,HFE.out,HFS.out.2.1,HFS.out.1.imp id And.left⟩
   obtain ⟨fn,tmps,assign,body,hy,hR⟩:=hY pre ((k,z,y,er),A2,c2) wr _ hj (Grows.trans hgw hga) htold
   dsimp only [xVals,xItem] at hy
   have hz31:z≤140737488351232:=by have:=HFS.out.1;omega
   have HGW:=hid (Grows.trans hgw hga)
   have HR:=hid hR
   have HSZ:=hid hgw.size
   clear hown2 hb2 hgw hga htold hR
   gi_wp2_with (fail)
   refine ⟨(fun h=>by cases h),RoundIn.mono (Zdr HR.out) ?_⟩
   rintro e W3 (⟨rfl,hJ3,hsz3,hk3⟩ | ⟨rfl,hJx3⟩)
   ·have hB1:(w2.alloc (.cells #[.int .i64 (k:Nat),.int .i64 (z:Nat),.slice A2 y.length c2] 212)).heap[w2.heap.size]?=some (.cells #[.int .i64 (k:Nat),.int .i64 (z:Nat),.slice A2 y.length c2] 212 (0,0)):=heap_alloc_new w2 _
    have hszw:wr.heap.size≤w2.heap.size:=HSZ.out
    have hB3:=(hk3 w2.heap.size (by simp) (.inr hszw)).trans hB1
    have hlt3:=(Array.getElem?_eq_some_iff.1 hB3).1
    have c0:=cell_of_row W3 w2.heap.size 0 _ _ _ hB3
    have c1:=cell_of_row W3 w2.heap.size 1 _ _ _ hB3
    have c2':=cell_of_row W3 w2.heap.size 2 _ _ _ hB3
    simp only [Gt] at c0 c1 c2'
    have hBb:Boxed W3 Bb 37 (.slice (some ad) N c):=((hk3 Bb (Nat.lt_of_lt_of_le HB.out.lt HGW.out.size) (.inl (.inr rfl))).trans (HGW.out.block _ HB.out.lt)).trans HB.out
    have hL3:Bytes W3 n₀ (some ad) N bs:=HL.out.carry fun p hp=>by
     have h1:p.block < wr.heap.size:=Nat.lt_of_lt_of_le hp HNW.out
     rw [World.cell?_of_block (hk3 p.block (Nat.lt_of_lt_of_le h1 HGW.out.size) (.inl (.inl hp)))]
     exact HGW.out.cell h1
    have hn3:n₀≤W3.heap.size:=Nat.le_trans HNW.out (Nat.le_trans HGW.out.size hsz3)
    have HB3:=hid hBb
    have HL3:=hid hL3
    have HN3:=hid hn3
    have hpass:=Zd3 k z A2 y.length c2 W3 hz31
    clear hk3 hB1 hB3 hBb hL3 hn3 hszw hsz3
    by_cases hz:z=0
    ·subst hz
     gi_wp2_with (fail)
     refine ⟨trivial,(fun h=>by cases h),(callsIn_wide.2 hpass).mono ?_⟩
     rintro e W4 ⟨rfl,hg4⟩
     have hJ4:=hJ _ _ _ hJ3 hg4
     have HJ4:=hid hJ4
     clear hJ4 hpass
     gi_wp2_with (fail)
     refine bodyPost_ret (results_none rfl _ _ _) rfl ?_
     refine ⟨⟨_,rfl⟩,.inl ⟨_,?_,HJ4.out⟩⟩
     rw [←HEV.out,HE.out]
     simp
    ·have hdz:decide (0 < z)=true:=by simp;omega
     rw [hdz] at hpass
     gi_wp2_with (fail)
     refine ⟨trivial,(fun h=>by cases h),(callsIn_wide.2 hpass).mono ?_⟩
     rintro e W4 ⟨rfl,hg4⟩
     have hJ4:=hJ _ _ _ hJ3 hg4
     have HJ4:=hid hJ4
     have HG4:=hid hg4
     have hzk:k+z≤N:=by have:=HFS.out.1;omega
     clear hJ4 hpass hg4 hdz
     gi_wp2_with (fail)
     go_roundw
     case rel =>
      refine ⟨pre++[((k,z,y,er),A2,c2)],k+z,hzk,by go_num,hid ?_,hid (by rw [List.map_append,List.map_singleton,Ze5]),HJ4.out,hid (Nat.le_trans HN3.out HG4.out.size),hid ((HG4.out.block _ HB3.out.lt).trans HB3.out),hid (HL3.out.below (HG4.out.mono HN3.out))⟩
      rw [←HEV.out,HE.out,if_neg hz]
      simp
     case measure=>simp [intOf];omega
   ·gi_wp2_with (fail)
    refine ⟨trivial,?_⟩
    gi_wp2_with (fail)
    refine bodyPost_ret (results_none rfl _ _ _) rfl ?_
    refine ⟨⟨_,rfl⟩,.inr ⟨_,?_,hJx3⟩⟩
    rw [←HEV.out,HE.out]
    refine ⟨_,by rw [List.map_append,List.append_assoc];rfl⟩
  ·obtain rfl:k=N:=by omega
   gi_wp2_with (fail)
   go_end0
   refine ⟨⟨_,rfl⟩,.inl ⟨pre,?_,hj⟩⟩
   rw [←HEV.out,List.drop_of_length_le (by omega),Zup,List.append_nil]
end Go.Proofs.YtkelafkbmnjpeaaGreat
namespace Go.Proofs.YtkelafkbmnjpeaaGreat
open Go.RowKit
def Lowly (A w:World):Prop:=A.heap.size≤w.heap.size∧∀ k,k < A.heap.size→w.heap[k]?=A.heap[k]?
theorem Lowly.grows {A w:World} (h:Grows A w):Lowly A w:=⟨h.size,fun k hk=>h.block k hk⟩
theorem Lowly.trans {A w w':World} (h:Lowly A w) (hs:w.heap.size≤w'.heap.size) (hk:∀ k,k < A.heap.size→w'.heap[k]?=w.heap[k]?):Lowly A w':=⟨Nat.le_trans h.1 hs,fun k h1=>(hk k h1).trans (h.2 k h1)⟩
theorem Row.lowly {A w:World} {X:Option Addr} {n:Nat} {xs:List Value} (h:Row A A.heap.size X n xs) (hl:Lowly A w):Row w w.heap.size X n xs :=
 ⟨h.len,fun k v hv=>by
  obtain ⟨ad,h1,h2,h3⟩:=h.spot k v hv
  exact ⟨ad,h1,Nat.lt_of_lt_of_le h2 hl.1,by rw [World.cell?_of_block (hl.2 (ad.add k).block (by rw [Zk];exact h2))];exact h3⟩⟩
theorem Sl.lowly {A w:World} {X:Option Addr} {n c:Nat} {bs:List UInt8} (h:Sl A X n c bs) (hl:Lowly A w):Sl w X n c bs:=⟨Row.lowly h.bytes hl,h.cap,h.bare⟩
theorem Zc8 {n₀ m n₁:Nat} {w:World} {e:TypeId} {size:Nat} {v:Value} {n:Nat} {xs:List Value} (h:w.ownsRow n₁ e size v n xs):∀ g,v.ownBlock=some g→n₁≤g∧Mine n₀ m n₁ w g:=by
 intro g hg
 rcases h.2 with ⟨rfl,_⟩ | ⟨g',cap,cur,rfl,hb,hh,_⟩
 ·simp [Value.ownBlock] at hg
 ·obtain rfl:g'=g:=by simpa [Value.ownBlock] using hg
  exact ⟨hb,.inr ⟨hb,_,_,_,hh⟩⟩
end Go.Proofs.YtkelafkbmnjpeaaGreat
set_option maxHeartbeats 4000000
set_option maxRecDepth 100000
namespace Go.Proofs.YtkelafkbmnjpeaaGreat
open Go.Lib (hid)
open Go.RowKit Go.Shelf
attribute [local go_sem] Oper.semAt_some
theorem Items.lowly {A w:World} {X:Option Addr} {n c:Nat} {ts:List It} (h:Items A X n c ts) (hl:Lowly A w):Items w X n c ts:=by
 obtain ⟨h1,h2,h3,hs,h4,h5,h6⟩:=h
 exact ⟨h1,h2,h3,hs,h4,h5.lowly hl,fun i x t hx ht=>(h6 i x t hx ht).lowly hl⟩
theorem Znl {w:World} {b g n c:Nat} {ts:List It} {hs:List Hd} (hown:w.ownsRow b 212 3 (.slice (some ⟨g,0,none⟩) n c) n (itCells ts hs)) (hbod:Jj w b hs ts) (hl:ts.length=n) (h1:1≤n):Items w (some ⟨g,3,none⟩) (n - 1) (c - 1) (ts.drop 1):=by
 obtain ⟨hh,hb⟩:=hbod
 have hit:=Items.owned hh.symm hl hown fun i x t hx ht=>Sl.owned' (hb i x t hx ht)
 have hcap:=hit.cap
 match ts,hs,hl,hh,hown,hb with
 | t :: ts,h :: hs,hl,hh,hown,hb =>
   simp only [List.length_cons,List.drop_succ_cons,List.drop_zero] at *
   have hlt:g < w.heap.size:=(hown.lt g rfl).2
   have hll:ts.length=hs.length:=by omega
   refine ⟨by omega,by omega,fun e=>(by cases e),hs,by omega,⟨by rw [itCells_length _ _ hll];omega,fun k v hv=>⟨_,rfl,hlt,?_⟩⟩,fun i x y hx hy=>Sl.owned' (hb (i+1) x y hx hy)⟩
   have hk:k < 3*ts.length:=by
    have:=(List.getElem?_eq_some_iff.1 hv).1
    rw [itCells_length _ _ hll] at this
    exact this
   rw [show (⟨g,3,none⟩:Addr).add k=⟨g,3+k,none⟩ by unfold Addr.add;split <;> simp_all,hown.cellAt (3+k) (by omega)]
   show (itV t h++itCells ts hs)[3+k]?=_
   rw [List.getElem?_append_right (by simp [itV]),show 3+k - (itV t h).length=k by simp [itV]]
   exact hv
 | [],_,hl,_,_,_=>simp only [List.length_nil] at hl;omega
 | _ :: _,[],_,hh,_,_=>simp at hh
theorem Zgw (A:Option Addr) (n c:Nat) (w:World):Calls Tryz.prog 151 #[.slice A n c] w fun e w'=>e=.returned (.func (.func 229) #[] #[.pointer (some ⟨w.heap.size,0,none⟩)])∧w.alloc (.cells #[.slice A n c] 203)=w':=by
 go_enter Tryz.func151,Tryz.ntmps151
 go_wp2
 go_ret
 exact ⟨rfl,rfl⟩
abbrev Rx:=It×(Option Addr×Nat×Nat)×(Option Addr×Nat×Nat)
def rcOf (bs:List UInt8):Rc:=(getR bs).getD Rc.none
def Zmc (x:Rx):Array Value:=#[.agg #[.int .i64 (x.1.1:Nat),.int .i64 (x.1.2.1:Nat),.int .i64 (rcOf x.1.2.2).kind,.string ⟨(rcOf x.1.2.2).key.toArray⟩,.int .i64 (rcOf x.1.2.2).id,.int .i64 (rcOf x.1.2.2).no,.int .i64 (rcOf x.1.2.2).size,.slice x.2.1.1 x.2.1.2.1 x.2.1.2.2,.slice x.2.2.1 x.2.2.2.1 x.2.2.2.2],.bool (getR x.1.2.2).isSome]
def ToldR (ts:List It) (pre:List Rx) (x:Rx) (W0 W1:World):Prop:=ts[pre.length]?=some x.1∧RcOwn W1 W0.heap.size x.2.1.1 x.2.1.2.1 x.2.1.2.2 x.2.2.1 x.2.2.2.1 x.2.2.2.2 (rcOf x.1.2.2)
theorem Zc6 (n:Nat) (Bl:Nat) (A:Option Addr) (N c:Nat) (ts:List It) (wA w:World) (hI:Items wA A N c ts) (hl:Lowly wA w) (hb:Boxed w Bl 203 (.slice A N c)) (hN:N≤1000000) (hsm:∀ t∈ts,t.2.2.length≤1000000) :
 Gives Tryz.prog n 229 #[.pointer (some ⟨Bl,0,none⟩)] Zmc (ToldR ts) (fun k=>k < wA.heap.size∨k=Bl) (fun xs=>xs.map (·.1)=ts) (fun _=>True) w:=by
 intro l J Jx W hW hJ hJx hY h0
 have hlen:=hI.len
 have HI:=hid (And.intro hI (And.intro hlen hsm))
 have hbW:Boxed W Bl 203 (.slice A N c):=(hW.block _ hb.lt).trans hb
 have HLW:=hid (show Lowly wA W from hl.trans hW.size fun k hk=>hW.block k (Nat.lt_of_lt_of_le hk hl.1))
 have hbc:=hbW.cell
 clear hI hl hb hsm hlen hW hbW
 show CallsIn _ _ _ _ #[.func (.yield l) #[] #[],.pointer (some ⟨Bl,0,none⟩)] _ _
 refine callsIn_of_wp Tryz.func229 rfl trivial ?_ rfl
 simp only [Tryz.ntmps229,List.size_toArray,List.length_cons,List.length_nil,Nat.reduceAdd,Nat.reduceSub,Array.replicate_succ,Array.replicate_zero,List.push_toArray,List.append_toArray,List.nil_append,List.cons_append]
 gi_wp2_with (fail)
 gi_loopw [9] (fun i wr=>∃ (pre:List Rx) (j:Nat),j≤N∧i=.int .i64 (j:Nat)∧Hid (pre.length=j∧pre.map (·.1)=ts.take j)∧J pre wr∧Hid (Lowly wA wr)) (fun i _=>N - (intOf i).toNat)
 case atStart=>exact ⟨[],0,Nat.zero_le _,rfl,hid ⟨rfl,by simp⟩,h0,HLW⟩
 case round =>
  obtain ⟨pre,j,hj,rfl,HP,hJp,HL⟩:=hrel
  by_cases hlt:j < N
  ·have hltI:(j:Int) < (N:Int):=by omega
   have hj0:(0:Int)≤(j:Int):=by omega
   have hwj:IntKind.i64.wrap ((j:Int)+1)=(j:Int)+1:=IntWalk.i64_in _ (by omega)
   obtain ⟨ad,B,m,dd,hA,c1,c2,c3,hsl⟩:=(HI.out.1.lowly HL.out).spot hlt
   subst hA
   obtain ⟨⟨t1,t2,tb⟩,ht⟩:∃ t,ts.getD j (0,0,[])=t:=⟨_,rfl⟩
   rw [ht] at c1 c2 hsl
   dsimp only at c1 c2 hsl
   have htj:ts[j]?=some (t1,t2,tb):=by
    have h1:j < ts.length:=by rw [HI.out.2.1];exact hlt
    rw [List.getElem?_eq_getElem h1,←ht,List.getD_eq_getElem?_getD,List.getElem?_eq_getElem h1]
    rfl
   have htl:tb.length≤1000000:=HI.out.2.2 _ (List.mem_of_getElem? htj)
   have k1:=c1 wr (Grows.refl _)
   have k2:=c2 wr (Grows.refl _)
   have k3:=c3 wr (Grows.refl _)
   have hm:=hsl.len
   have HC:=hid (Zku B m dd tb (wr.alloc (.cells #[.int .i64 (t1:Nat),.int .i64 (t2:Nat),.slice B m dd] 212)) (hsl.grow (Zb _ _)) (by omega))
   have HT:=hid htj
   have HG1:=hid (Zb wr (.cells #[.int .i64 (t1:Nat),.int .i64 (t2:Nat),.slice B m dd] 212))
   have HM1:=hid (Whole.made wr 212 #[.int .i64 (t1:Nat),.int .i64 (t2:Nat),.slice B m dd])
   have HLT:=hid hlt
   clear c1 c2 c3 hsl ht htj htl hm
   gi_wp2_with (fail)
   refine ⟨trivial,(fun h=>by cases h),(callsIn_wide.2 HC.out).mono ?_⟩
   rintro e w2 ⟨LA,ln,lc,BA,bn,bc,rfl,hr,hb⟩
   have hg2:=Grows.trans HG1.out hb
   have hM2:=Grows.whole hb HM1.out
   have hr0:=hr.from (show wr.heap.size≤(wr.alloc (.cells #[.int .i64 (t1:Nat),.int .i64 (t2:Nat),.slice B m dd] 212)).heap.size from HG1.out.size)
   obtain ⟨ro,hro⟩:∃ q,rcOf tb=q:=⟨_,rfl⟩
   obtain ⟨so,hso⟩:∃ q,(getR tb).isSome=q:=⟨_,rfl⟩
   have hro':(getR tb).getD Rc.none=ro:=hro
   rw [hro'] at hr0
   have HRV:=hid (And.intro hro hso)
   have hga:=Zb w2 (.cells #[.int .i64 ro.kind,.string ⟨ro.key.toArray⟩,.int .i64 ro.id,.int .i64 ro.no,.int .i64 ro.size,.slice LA ln lc,.slice BA bn bc] 39)
   have hM3:=Whole.made w2 39 #[.int .i64 ro.kind,.string ⟨ro.key.toArray⟩,.int .i64 ro.id,.int .i64 ro.no,.int .i64 ro.size,.slice LA ln lc,.slice BA bn bc]
   have hM2':=hga.whole hM2
   have y0:=hM2'.cell 0
   have y1:=hM2'.cell 1
   have z0:=hM3.cell 0
   have z1:=hM3.cell 1
   have z2:=hM3.cell 2
   have z3:=hM3.cell 3
   have z4:=hM3.cell 4
   have z5:=hM3.cell 5
   have z6:=hM3.cell 6
   simp only [Gt] at y0 y1 z0 z1 z2 z3 z4 z5 z6
   have htold:ToldR ts pre ((t1,t2,tb),(LA,ln,lc),(BA,bn,bc)) wr (w2.alloc (.cells #[.int .i64 ro.kind,.string ⟨ro.key.toArray⟩,.int .i64 ro.id,.int .i64 ro.no,.int .i64 ro.size,.slice LA ln lc,.slice BA bn bc] 39)) :=
    ⟨by rw [HP.out.1];exact HT.out,by dsimp only;rw [hro];exact hr0.grow hga⟩
   obtain ⟨fn,tmps,assign,body,hy,hR⟩:=hY pre ((t1,t2,tb),(LA,ln,lc),(BA,bn,bc)) wr _ hJp (Grows.trans hg2 hga) htold
   dsimp only [Zmc] at hy
   rw [hro,hso] at hy
   have HGW:=hid (Grows.trans hg2 hga)
   have HR:=hid hR
   rw [hro',hso]
   clear hr hb hg2 hM2 hr0 hro hso hro' hga hM3 hM2' htold hR
   gi_wp2_with (fail)
   refine ⟨(fun h=>by cases h),RoundIn.mono (Zdr HR.out) ?_⟩
   rintro e W3 (⟨rfl,hJ3,hsz3,hk3⟩ | ⟨rfl,hJx3⟩)
   ·have hL1:=HL.out.trans HGW.out.size fun k hk=>HGW.out.block k (Nat.lt_of_lt_of_le hk HL.out.1)
    have HL3:=hid (hL1.trans hsz3 fun k hk=>hk3 k (Nat.lt_of_lt_of_le hk hL1.1) (.inl (.inl hk)))
    have HJ3:=hid hJ3
    have HPS:=hid (show (pre++[(((t1,t2,tb),(LA,ln,lc),(BA,bn,bc)):Rx)]).length=j+1∧(pre++[(((t1,t2,tb),(LA,ln,lc),(BA,bn,bc)):Rx)]).map (·.1)=ts.take (j+1) from ⟨by rw [List.length_append,HP.out.1];rfl,by rw [List.map_append,HP.out.2,List.take_add_one,HT.out];rfl⟩)
    clear hL1 hsz3 hk3 hJ3 y0 y1 z0 z1 z2 z3 z4 z5 z6 hy k1 k2 k3
    gi_wp2_with (fail)
    go_roundw
    case rel=>exact ⟨_,j+1,HLT.out,by go_num,HPS,HJ3.out,HL3⟩
    case measure=>simp only [intOf];have:=HLT.out;omega
   ·have HX:=hid hJx3
    clear hJx3 y0 y1 z0 z1 z2 z3 z4 z5 z6 hy k1 k2 k3
    gi_wp2_with (fail)
    refine bodyPost_ret (results_none rfl _ _ _) rfl ?_
    exact ⟨⟨_,rfl⟩,.inr ⟨_,trivial,HX.out⟩⟩
  ·obtain rfl:j=N:=by omega
   gi_wp2_with (fail)
   go_end0
   refine ⟨⟨_,rfl⟩,.inl ⟨pre,?_,hJp⟩⟩
   rw [HP.out.2,List.take_of_length_le (by rw [HI.out.2.1];exact Nat.le_refl _)]
end Go.Proofs.YtkelafkbmnjpeaaGreat
namespace Go.Proofs.YtkelafkbmnjpeaaGreat
open Go.RowKit
theorem infoFnd:(Tryz.prog.info? 145).map (fun i=>(i.zero,i.size,i.bytes))=some (some (.agg #[.int .i64 0,.int .i64 0,.int .i64 0,.string ⟨#[]⟩,.int .i64 0,.int .i64 0,.int .i64 0,.slice none 0 0,.slice none 0 0]),9,112):=by kernel_rfl
abbrev Fn:=Nat×Nat×Rc
abbrev Fh:=(Option Addr×Nat×Nat)×(Option Addr×Nat×Nat)
def fnE (p:Fn×Fh):List Value:=[.int .i64 (p.1.1:Nat),.int .i64 (p.1.2.1:Nat),.int .i64 p.1.2.2.kind,.string ⟨p.1.2.2.key.toArray⟩,.int .i64 p.1.2.2.id,.int .i64 p.1.2.2.no,.int .i64 p.1.2.2.size,.slice p.2.1.1 p.2.1.2.1 p.2.1.2.2,.slice p.2.2.1 p.2.2.2.1 p.2.2.2.2]
theorem Zpo (p:Fn×Fh):∀ u∈fnE p,u.oneCell'=true:=by
 intro u hu
 simp only [fnE,List.mem_cons,List.not_mem_nil,or_false] at hu
 rcases hu with rfl | rfl | rfl | rfl | rfl | rfl | rfl | rfl | rfl <;> first | rfl | simp [Value.oneCell']
theorem Ztz {w:World} {g ty:Nat} {p:Fn×Fh} (hw:Whole w g ty (fnE p).toArray):∀ j u,(fnE p)[j]?=some u→w.cell? ((⟨g,0,none⟩:Addr).add j)=some u:=by
 intro j u hj
 rw [show (⟨g,0,none⟩:Addr).add j=⟨g,j,none⟩ by unfold Addr.add;split <;> simp_all,hw.cell j]
 simpa using hj
structure Fnds (w:World) (A:Option Addr) (n:Nat) (l:List (Fn×Fh)):Prop where
 row:Rw w A n fnE 9 l
 recs:∀ p∈l,RcIn w p.2.1.1 p.2.1.2.1 p.2.1.2.2 p.2.2.1 p.2.2.2.1 p.2.2.2.2 p.1.2.2
structure FnOwn (b:Nat) (w:World) (A:Option Addr) (n c:Nat) (l:List (Fn×Fh)):Prop where
 len:l.length=n
 own:w.ownsRow b 145 9 (.slice A n c) n (l.flatMap fnE)
 recs:∀ p∈l,RcOwn w b p.2.1.1 p.2.1.2.1 p.2.1.2.2 p.2.2.1 p.2.2.2.1 p.2.2.2.2 p.1.2.2
theorem FnOwn.nil (b:Nat) (w:World):FnOwn b w none 0 0 []:=⟨rfl,World.ownsRow_nil _ _ _ _,fun p hp=>by cases hp⟩
theorem FnOwn.low {b b':Nat} {w:World} {A:Option Addr} {n c:Nat} {l:List (Fn×Fh)} (h:FnOwn b w A n c l) (hb:b'≤b):FnOwn b' w A n c l:=⟨h.len,Zh h.own hb,fun p hp=>⟨Zh (h.recs p hp).locs hb,(h.recs p hp).len,Zh (h.recs p hp).b hb⟩⟩
theorem FnOwn.grow {b:Nat} {w w':World} {A:Option Addr} {n c:Nat} {l:List (Fn×Fh)} (h:FnOwn b w A n c l) (hg:Grows w w'):FnOwn b w' A n c l:=⟨h.len,Zd h.own hg,fun p hp=>(h.recs p hp).grow hg⟩
def fnsR (l:List Rx):List (Fn×Fh):=(l.filter fun x=>(getR x.1.2.2).isSome).map fun x=>((x.1.1,x.1.2.1,rcOf x.1.2.2),x.2)
def badR (l:List Rx):Nat:=(l.filter fun x=>!(getR x.1.2.2).isSome).length
theorem Zji (l:List Rx) (x:Rx):fnsR (l++[x])=fnsR l++if (getR x.1.2.2).isSome=true then [((x.1.1,x.1.2.1,rcOf x.1.2.2),x.2)] else []:=by
 unfold fnsR
 rw [List.filter_append,List.map_append]
 by_cases h:(getR x.1.2.2).isSome=true <;> simp [h]
theorem Zjj (l:List Rx) (x:Rx):badR (l++[x])=badR l+if (getR x.1.2.2).isSome=true then 0 else 1:=by
 unfold badR
 rw [List.filter_append,List.length_append]
 by_cases h:(getR x.1.2.2).isSome=true
 ·rw [if_pos h,List.filter_cons,if_neg (by rw [h];decide)]
  rfl
 ·rw [if_neg h,List.filter_cons,if_pos (by rw [Bool.not_eq_true] at h;rw [h];decide)]
  rfl
def fnsP (ts:List It):List Fn:=(ts.filter fun t=>(getR t.2.2).isSome).map fun t=>(t.1,t.2.1,rcOf t.2.2)
def badP (ts:List It):Nat:=(ts.filter fun t=>!(getR t.2.2).isSome).length
theorem Zt0 (l:List Rx):(fnsR l).map (·.1)=fnsP (l.map (·.1)):=by
 unfold fnsR fnsP
 rw [List.map_map,List.filter_map,List.map_map]
 rfl
theorem Zt1 (l:List Rx):badR l=badP (l.map (·.1)):=by
 unfold badR badP
 rw [List.filter_map,List.length_map]
 rfl
end Go.Proofs.YtkelafkbmnjpeaaGreat
namespace Go.Proofs.YtkelafkbmnjpeaaGreat
def digs (n:Nat):Nat→List UInt8
 | 0=>[]
 | i+1=>UInt8.ofNat (48+n / 10 ^ i % 10) :: digs n i
theorem Yi (n:Nat):∀ i,(digs n i).length=i
 | 0=>rfl
 | i+1=>by simp [digs,Yi n i]
def ofP (k n:Int):List UInt8 :=
 if n < 0∨n > 99999999 then [] else if k=1 then 115 :: digs n.toNat 8 else if k=2 then 104 :: digs n.toNat 8 else if k=3∧n=0 then [109] else if k=4∧n=0 then [116] else []
def isDig (c:UInt8):Bool:=decide (48≤c.toNat∧c.toNat≤57)
def val (acc:Nat) (r:List UInt8):Nat:=r.foldl (fun a c=>10*a+(c.toNat - 48)) acc
theorem Zk2 (acc:Nat):val acc []=acc:=rfl
theorem Zcf (acc:Nat) (c:UInt8) (r:List UInt8):val acc (c :: r)=val (10*acc+(c.toNat - 48)) r:=by simp only [val,List.foldl_cons]
def parseP:List UInt8→Option (Int×Int)
 | []=>none
 | c :: r=>if r.length=8∧r.all isDig=true then (if c=115 then some (1,(val 0 r:Nat)) else if c=104 then some (2,(val 0 r:Nat)) else none)
   else if r=[] then (if c=109 then some (3,0) else if c=116 then some (4,0) else none) else none
theorem Zcg (c:UInt8) (r:List UInt8):parseP (c :: r)=if r.length=8∧r.all isDig=true then (if c=115 then some (1,((val 0 r:Nat):Int)) else if c=104 then some (2,((val 0 r:Nat):Int)) else none)
 else if r=[] then (if c=109 then some (3,0) else if c=116 then some (4,0) else none) else none:=rfl
def trip:Option (Int×Int)→Int×Int×Bool
 | none=>(0,0,false)
 | some (k,n)=>(k,n,true)
theorem Zfg (x:Nat) (h:x < 10):(UInt8.ofNat (48+x)).toNat=48+x:=by
 simp [UInt8.toNat_ofNat']
 omega
theorem Zvj (x:Nat) (h:x < 10):isDig (UInt8.ofNat (48+x))=true:=by
 unfold isDig
 rw [Zfg x h]
 exact decide_eq_true (by omega)
theorem Zic (n:Nat):∀ i,(digs n i).all isDig=true
 | 0=>rfl
 | i+1=>by
   rw [digs,List.all_cons,Zic n i,Zvj _ (Nat.mod_lt _ (by omega))]
   rfl
theorem Zsu (n i:Nat):10 ^ i*(n / 10 ^ i % 10)+n % 10 ^ i=n % 10 ^ (i+1):=by
 rw [Nat.pow_succ,Nat.mod_mul,Nat.add_comm]
theorem Zmh (n:Nat):∀ (i acc:Nat),val acc (digs n i)=acc*10 ^ i+n % 10 ^ i
 | 0,acc=>by rw [digs,Zk2];omega
 | i+1,acc=>by
   have h:n / 10 ^ i % 10 < 10:=Nat.mod_lt _ (by omega)
   rw [digs,Zcf,Zmh n i,Zfg _ h,←Zsu n i,show 48+n / 10 ^ i % 10 - 48=n / 10 ^ i % 10 by omega,Nat.add_mul,Nat.pow_succ]
   have e1:10*acc*10 ^ i=acc*(10 ^ i*10):=by rw [Nat.mul_comm 10 acc,Nat.mul_assoc,Nat.mul_comm 10 (10 ^ i)]
   have e2:n / 10 ^ i % 10*10 ^ i=10 ^ i*(n / 10 ^ i % 10):=Nat.mul_comm _ _
   omega
theorem val_lt:∀ (r:List UInt8) (acc:Nat),r.all isDig=true→val acc r < (acc+1)*10 ^ r.length
 | [],acc,_=>by rw [Zk2];simp
 | c :: r,acc,h=>by
   rw [List.all_cons,Bool.and_eq_true] at h
   have hc:=of_decide_eq_true h.1
   have:=val_lt r (10*acc+(c.toNat - 48)) h.2
   rw [Zcf,List.length_cons,Nat.pow_succ]
   have e:(acc+1)*(10 ^ r.length*10)=(10*acc+10)*10 ^ r.length:=by
    rw [Nat.mul_comm (10 ^ r.length) 10,←Nat.mul_assoc,Nat.add_mul,Nat.mul_comm acc 10,Nat.one_mul]
   have e2:(10*acc+(c.toNat - 48)+1)*10 ^ r.length≤(10*acc+10)*10 ^ r.length:=Nat.mul_le_mul_right _ (by omega)
   omega
theorem digs_val:∀ (r:List UInt8) (acc:Nat),r.all isDig=true→digs (val acc r) r.length=r
 | [],_,_=>rfl
 | c :: r,acc,h=>by
   rw [List.all_cons,Bool.and_eq_true] at h
   have hc:=of_decide_eq_true h.1
   have hm:∀ (x y:List UInt8) (a:Nat),val a (x++y)=val (val a x) y:=by
    intro x
    induction x with
    | nil=>intro y a;rfl
    | cons u x ih=>intro y a;rw [List.cons_append,Zcf,Zcf,ih y]
   have key:∀ (x:List UInt8) (a:Nat),x.all isDig=true→val a x / 10 ^ x.length=a:=by
    intro x
    induction x with
    | nil=>intro a _;rw [Zk2];simp
    | cons u x ih =>
      intro a hx
      rw [List.all_cons,Bool.and_eq_true] at hx
      have hu:=of_decide_eq_true hx.1
      rw [Zcf,List.length_cons,Nat.pow_succ,←Nat.div_div_eq_div_mul,ih _ hx.2]
      omega
   rw [Zcf,List.length_cons,digs,digs_val r _ h.2,key r _ h.2]
   congr 1
   apply UInt8.toNat_inj.1
   rw [Zfg _ (Nat.mod_lt _ (by omega))]
   omega
theorem Zp5 (k n:Int) (h:ofP k n≠[]):0≤n∧n≤99999999:=by
 unfold ofP at h
 split at h
 ·exact absurd rfl h
 ·omega
theorem Zc9 (k n:Int) (h:ofP k n≠[]):parseP (ofP k n)=some (k,n):=by
 have hn:=Zp5 k n h
 have hv:((val 0 (digs n.toNat 8):Nat):Int)=n:=by
  rw [Zmh]
  omega
 unfold ofP at *
 rw [if_neg (by omega)] at *
 split at h
 ·rename_i hk
  subst hk
  rw [if_pos rfl,Zcg,if_pos ⟨Yi _ _,Zic _ _⟩,if_pos rfl,hv]
 ·rename_i hk1
  rw [if_neg hk1]
  split at h
  ·rename_i hk
   subst hk
   rw [if_pos rfl,Zcg,if_pos ⟨Yi _ _,Zic _ _⟩,if_neg (by decide),if_pos rfl,hv]
  ·rename_i hk2
   rw [if_neg hk2]
   split at h
   ·rename_i hk
    rw [if_pos hk,hk.1,hk.2]
    decide
   ·rename_i hk3
    rw [if_neg hk3]
    split at h
    ·rename_i hk
     rw [if_pos hk,hk.1,hk.2]
     decide
    ·exact absurd rfl h
theorem Zsv (s:List UInt8) (k n:Int) (h:parseP s=some (k,n)):ofP k n=s:=by
 match s with
 | []=>simp [parseP] at h
 | c :: r =>
   rw [Zcg] at h
   split at h
   ·rename_i hr
    have hl:=val_lt r 0 hr.2
    rw [hr.1] at hl
    have hd:=digs_val r 0 hr.2
    rw [hr.1] at hd
    split at h
    ·rename_i hc
     injection h with h
     injection h with h1 h2
     subst h1 h2 hc
     unfold ofP
     rw [if_neg (by omega),if_pos rfl,Int.toNat_natCast,hd]
    ·split at h
     ·rename_i hc
      injection h with h
      injection h with h1 h2
      subst h1 h2 hc
      unfold ofP
      rw [if_neg (by omega),if_neg (by decide),if_pos rfl,Int.toNat_natCast,hd]
     ·cases h
   ·split at h
    ·rename_i hr
     subst hr
     split at h
     ·rename_i hc
      injection h with h
      injection h with h1 h2
      subst h1 h2 hc
      rfl
     ·split at h
      ·rename_i hc
       injection h with h
       injection h with h1 h2
       subst h1 h2 hc
       rfl
      ·cases h
    ·cases h
theorem Zg3 (s:List UInt8) (k n:Int) (h:parseP s=some (k,n)):1≤k∧k≤4∧0≤n∧n≤99999999∧(2 < k→n=0)∧s≠[]:=by
 have h2:=Zsv s k n h
 have hs:s≠[]:=fun e=>by rw [e] at h;simp [parseP] at h
 have hn:=Zp5 k n (by rw [h2];exact hs)
 unfold ofP at h2
 rw [if_neg (by omega)] at h2
 refine ⟨?_,?_,hn.1,hn.2,?_,hs⟩
 all_goals
  split at h2
  ·omega
  ·split at h2
   ·omega
   ·split at h2
    ·omega
    ·split at h2
     ·omega
     ·exact absurd h2.symm hs
end Go.Proofs.YtkelafkbmnjpeaaGreat
