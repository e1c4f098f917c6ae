/-
  Texts that the statements lean on, one behind the other.
-/
import Derived.Test.YtkelafkbmnjpeaaGreatMG11
import Derived.Test.YtkelafkbmnjpeaaGreatMG14
import Derived.Test.YtkelafkbmnjpeaaGreatMG22
import Derived.Test.YtkelafkbmnjpeaaGreatMG09
import Derived.Test.YtkelafkbmnjpeaaGreatMG00
import Derived.Laws.StructEq
import Derived.LoopTactic
import Derived.IntWalk
import Derived.Lib.Hide
import Derived.WalkLawsBesides
set_option linter.unusedSimpArgs false
set_option linter.unusedVariables false
set_option maxHeartbeats 8000000
set_option maxRecDepth 100000
namespace Go.Proofs.YtkelafkbmnjpeaaGreat
open Go.Lib (hid)
open Go.RowKit
attribute [local irreducible] Go.wpQuiet
theorem Zvp (a b c d e f:Int) (w:World):(Op.equalIn 10000 140 (.agg #[.int .i64 a,.int .i64 b,.int .i64 c]) (.agg #[.int .i64 d,.int .i64 e,.int .i64 f])).run Tryz.prog w=.ok (decide (a=d∧b=e∧c=f)) w:=by
 have hf:Tryz.prog.fieldsOf 140=#[{ name := "Seg", type:=3,offset:=0,embedded:=false,tag := "", pkgPath := "", byteOffset:=0 },{ name := "At", type:=3,offset:=1,embedded:=false,tag := "", pkgPath := "", byteOffset:=8 },{ name := "N", type:=3,offset:=2,embedded:=false,tag := "", pkgPath := "", byteOffset:=16 }]:=by
  unfold Program.fieldsOf
  rw [Tryz.underlying140]
 have hu:Tryz.prog.underlying 140=some (.struct (Tryz.prog.fieldsOf 140)):=by rw [hf];exact Tryz.underlying140
 have hp:Tryz.prog.stoodInHeld 140=false:=by kernel_rfl
 have hi:∀ w,(isAgg 3).run Tryz.prog w=.ok false w:=fun w=>by kernel_rfl
 have he:∀ (x y:Int) (w:World),(Op.equalIn 9999 3 (.int .i64 x) (.int .i64 y)).run Tryz.prog w=.ok (x==y) w:=fun x y w=>run_equalIn_int w 9998 _ _ _ x y Tryz.underlying3
 rw [run_equalIn_struct w 9999 _ _ _ hu hp,hf]
 have hpa:∀ (cs:Array Value) (i:Nat) (v:Value) (w:World),cs[i]?=some v→(part 3 cs i).run Tryz.prog w=.ok v w:=fun cs i v w h=>by
  simp [part,hi,h]
 have h0:=fun w=>hpa #[.int .i64 a,.int .i64 b,.int .i64 c] 0 (.int .i64 a) w rfl
 have h1:=fun w=>hpa #[.int .i64 a,.int .i64 b,.int .i64 c] 1 (.int .i64 b) w rfl
 have h2:=fun w=>hpa #[.int .i64 a,.int .i64 b,.int .i64 c] 2 (.int .i64 c) w rfl
 have g0:=fun w=>hpa #[.int .i64 d,.int .i64 e,.int .i64 f] 0 (.int .i64 d) w rfl
 have g1:=fun w=>hpa #[.int .i64 d,.int .i64 e,.int .i64 f] 1 (.int .i64 e) w rfl
 have g2:=fun w=>hpa #[.int .i64 d,.int .i64 e,.int .i64 f] 2 (.int .i64 f) w rfl
 by_cases e1:a=d
 ·subst e1
  by_cases e2:b=e
  ·subst e2
   by_cases e3:c=f
   ·subst e3
    simp [Op.eqFields,h0,h1,h2,he]
   ·have b3:(c==f)=false:=by simpa using e3
    simp [Op.eqFields,h0,h1,h2,g0,g1,g2,he,b3,e3]
  ·have b2:(b==e)=false:=by simpa using e2
   simp [Op.eqFields,h0,h1,g0,g1,he,b2,e2]
 ·have b1:(a==d)=false:=by simpa using e1
  simp [Op.eqFields,h0,g0,he,b1,e1]
theorem Ztp (k1:Int) (s1:List UInt8) (i1 n1 z1:Int) (LA1:Option Addr) (ln1 lc1:Nat) (BA1:Option Addr) (bn1 bc1:Nat) (ls1:List Lc) (bs1:List UInt8) (k2:Int) (s2:List UInt8) (i2 n2 z2:Int) (LA2:Option Addr) (ln2 lc2:Nat) (BA2:Option Addr) (bn2 bc2:Nat) (ls2:List Lc) (bs2:List UInt8) (w:World) (h1:RcIn w LA1 ln1 lc1 BA1 bn1 bc1 (⟨k1,s1,i1,n1,z1,ls1,bs1⟩:Rc)) (h2:RcIn w LA2 ln2 lc2 BA2 bn2 bc2 (⟨k2,s2,i2,n2,z2,ls2,bs2⟩:Rc)) (hne:¬ (k1=k2∧s1=s2∧i1=i2∧n1=n2∧z1=z2∧bs1=bs2∧ln1=ln2)) :
 Calls Tryz.prog 45 #[.agg #[.int .i64 k1,.string ⟨s1.toArray⟩,.int .i64 i1,.int .i64 n1,.int .i64 z1,.slice LA1 ln1 lc1,.slice BA1 bn1 bc1],.agg #[.int .i64 k2,.string ⟨s2.toArray⟩,.int .i64 i2,.int .i64 n2,.int .i64 z2,.slice LA2 ln2 lc2,.slice BA2 bn2 bc2]] w fun e w'=>e=.returned (.bool false)∧Below w.heap.size w w':=by
 have hs1:=fun w' (hg:Grows w w')=>Z4 (h1.sl.grow hg)
 have hs2:=fun w' (hg:Grows w w')=>Z4 (h2.sl.grow hg)
 have hG:∀ o1 o2,Grows w ((w.alloc o1).alloc o2):=fun o1 o2=>Grows.trans (Zb _ _) (Zb _ _)
 have HN:=hid hne
 clear h1 h2 hne
 dsimp only at hs1 hs2
 by_cases hln:ln1=ln2
 ·subst hln
  go_enter Tryz.func45,Tryz.ntmps45
  go_wp2_with (fail)
  all_goals first
   | (go_ret
      exact ⟨rfl,Grows.trans (Zb _ _) (Zb _ _)⟩)
   | (exfalso
      exact HN.out ⟨by assumption,by assumption,by assumption,by assumption,by assumption,by assumption,by first | exact rfl | trivial⟩)
 ·have hd:((ln1:Int) != (ln2:Int))=true:=by simp [bne];omega
  clear hln
  go_enter Tryz.func45,Tryz.ntmps45
  go_wp2_with (fail)
  all_goals
   go_ret
   exact ⟨rfl,Grows.trans (Zb _ _) (Zb _ _)⟩
theorem Zrk (k1:Int) (s1:List UInt8) (i1 n1 z1:Int) (LA1:Option Addr) (ln1 lc1:Nat) (BA1:Option Addr) (bn1 bc1:Nat) (ls1:List Lc) (bs1:List UInt8) (LA2:Option Addr) (lc2:Nat) (BA2:Option Addr) (bn2 bc2:Nat) (ls2:List Lc) (w:World) (h1:RcIn w LA1 ln1 lc1 BA1 bn1 bc1 (⟨k1,s1,i1,n1,z1,ls1,bs1⟩:Rc)) (h2:RcIn w LA2 ln1 lc2 BA2 bn2 bc2 ⟨k1,s1,i1,n1,z1,ls2,bs1⟩) (hb:ln1≤1000000) :
 Calls Tryz.prog 45 #[.agg #[.int .i64 k1,.string ⟨s1.toArray⟩,.int .i64 i1,.int .i64 n1,.int .i64 z1,.slice LA1 ln1 lc1,.slice BA1 bn1 bc1],.agg #[.int .i64 k1,.string ⟨s1.toArray⟩,.int .i64 i1,.int .i64 n1,.int .i64 z1,.slice LA2 ln1 lc2,.slice BA2 bn2 bc2]] w fun e w'=>e=.returned (.bool (decide (ls1=ls2)))∧Below w.heap.size w w':=by
 have hs1:=fun w' (hg:Grows w w')=>Z4 (h1.sl.grow hg)
 have hs2:=fun w' (hg:Grows w w')=>Z4 (h2.sl.grow hg)
 have hG:∀ o1 o2,Grows w ((w.alloc o1).alloc o2):=fun o1 o2=>Grows.trans (Zb _ _) (Zb _ _)
 have HL1:=hid h1.locs
 have HL2:=hid h2.locs
 clear h1 h2
 dsimp only at hs1 hs2 HL1 HL2
 obtain ⟨q,hq⟩:∃ q,decide (ls1=ls2)=q:=⟨_,rfl⟩
 rw [hq]
 have HQ:=hid hq
 clear hq
 go_enter Tryz.func45,Tryz.ntmps45
 go_wp2_with (fail)
 clear hs1 hs2 hG
 obtain ⟨W0,hW0⟩:∃ W0,(w.alloc (.cells #[.int .i64 k1,.string ⟨s1.toArray⟩,.int .i64 i1,.int .i64 n1,.int .i64 z1,.slice LA1 ln1 lc1,.slice BA1 bn1 bc1] 39)).alloc (.cells #[.int .i64 k1,.string ⟨s1.toArray⟩,.int .i64 i1,.int .i64 n1,.int .i64 z1,.slice LA2 ln1 lc2,.slice BA2 bn2 bc2] 39)=W0:=⟨_,rfl⟩
 have hg0:Grows w W0:=hW0 ▸ Grows.trans (Zb _ _) (Zb _ _)
 have HW1:Hid (Whole W0 w.heap.size 39 #[.int .i64 k1,.string ⟨s1.toArray⟩,.int .i64 i1,.int .i64 n1,.int .i64 z1,.slice LA1 ln1 lc1,.slice BA1 bn1 bc1]):=hid (hW0 ▸ (Zb _ _).whole (Whole.made _ _ _))
 have HW2:Hid (Whole W0 (w.heap.size+1) 39 #[.int .i64 k1,.string ⟨s1.toArray⟩,.int .i64 i1,.int .i64 n1,.int .i64 z1,.slice LA2 ln1 lc2,.slice BA2 bn2 bc2]):=hid (by rw [←hW0];have:=Whole.made (w.alloc (.cells #[.int .i64 k1,.string ⟨s1.toArray⟩,.int .i64 i1,.int .i64 n1,.int .i64 z1,.slice LA1 ln1 lc1,.slice BA1 bn1 bc1] 39)) 39 #[.int .i64 k1,.string ⟨s1.toArray⟩,.int .i64 i1,.int .i64 n1,.int .i64 z1,.slice LA2 ln1 lc2,.slice BA2 bn2 bc2];rwa [World.size_alloc] at this)
 rw [hW0]
 have HG0:=hid hg0
 clear hW0 hg0
 go_loopw [5] (fun i wr=>∃ k:Nat,k≤ln1∧i=.int .i64 (k:Nat)∧Hid (ls1.take k=ls2.take k)∧Hid (Grows W0 wr)) (fun i _=>ln1 - (intOf i).toNat)
 case atStart=>exact ⟨0,by omega,rfl,hid (by simp),hid (Grows.refl _)⟩
 case round =>
  obtain ⟨k,hk,rfl,HE,HG⟩:=hrel
  have c15:∀ w',Grows wr w'→w'.cell? ⟨w.heap.size,5,none⟩=some (.slice LA1 ln1 lc1):=fun w' hg=>((Grows.trans HG.out hg).whole HW1.out).cell 5
  have c25:∀ w',Grows wr w'→w'.cell? ⟨w.heap.size+1,5,none⟩=some (.slice LA2 ln1 lc2):=fun w' hg=>((Grows.trans HG.out hg).whole HW2.out).cell 5
  have d15:=c15 wr (Grows.refl _)
  have d25:=c25 wr (Grows.refl _)
  have l1:=HL1.out.len
  have l2:=HL2.out.len
  by_cases hlt:k < ln1
  ·obtain ⟨ad,rfl,p0,p1,p2⟩:=(HL1.out.grow (Grows.trans HG0.out HG.out)).spot hlt
   obtain ⟨bd,rfl,q0,q1,q2⟩:=(HL2.out.grow (Grows.trans HG0.out HG.out)).spot hlt
   have hx1:=Zh0 ls1 k (by omega)
   have hx2:=Zh0 ls2 k (by omega)
   have hne:ls1.getD k (0,0,0)≠ls2.getD k (0,0,0)→ls1≠ls2:=fun h e=>h (by rw [e])
   have k0:(0:Int)≤(k:Int):=by omega
   have k1':(k:Int) < (ln1:Int):=by omega
   generalize ls1.getD k (0,0,0)=t at *
   generalize ls2.getD k (0,0,0)=u at *
   have HX:=hid (And.intro hx1 (And.intro hx2 hne))
   obtain ⟨a0,a1,a2⟩:=t
   obtain ⟨b0,b1,b2⟩:=u
   dsimp only at p0 p1 p2 q0 q1 q2
   have heq:=Zvp a0 a1 a2 b0 b1 b2
   generalize hd:decide (a0=b0∧a1=b1∧a2=b2)=d at *
   have HD:=hid hd
   clear hx1 hx2 hne hd l1 l2
   go_wp2_with (fail)
   refine Yc (by kernel_rfl) (by kernel_rfl) ?_
   iterate 11 (refine q_op' (v:=?_) (a':=?_) (by rfl) ?_ ?_ ?_
               rotate_left 2
               ·intro w' hC
                go_simp
                try with_reducible rfl
               ·simp only [Pu]
                try rfl)
   refine wpQuiet_nil ?_
   intro w5 hC
   have HG5:=hid (Grows.trans HG.out hC)
   clear hC
   cases d with
   | true =>
     go_wp2_with (fail)
     go_roundw
     case rel =>
      refine ⟨k+1,by omega,by go_num,hid ?_,HG5⟩
      have hd:=of_decide_eq_true HD.out
      rw [HX.out.1,HX.out.2.1,HE.out,hd.1,hd.2.1,hd.2.2]
     case measure=>simp [intOf];omega
   | false =>
     go_wp2_with (fail)
     go_ret
     have hd:=of_decide_eq_false HD.out
     exact ⟨Zm ((decide_eq_false (HX.out.2.2 (fun e=>hd (by cases e;exact ⟨rfl,rfl,rfl⟩)))).symm.trans HQ.out),Grows.trans HG0.out HG5.out⟩
  ·obtain rfl:k=ln1:=by omega
   have he:=HE.out
   rw [List.take_of_length_le (by omega),List.take_of_length_le (by omega)] at he
   have HALL:=hid he
   clear he
   go_wp2_with (fail)
   go_ret
   exact ⟨Zm ((decide_eq_true HALL.out).symm.trans HQ.out),Grows.trans HG0.out HG.out⟩
theorem Zmv (x y:Rc) (LA1:Option Addr) (ln1 lc1:Nat) (BA1:Option Addr) (bn1 bc1:Nat) (LA2:Option Addr) (ln2 lc2:Nat) (BA2:Option Addr) (bn2 bc2:Nat) (w:World) (h1:RcIn w LA1 ln1 lc1 BA1 bn1 bc1 x) (h2:RcIn w LA2 ln2 lc2 BA2 bn2 bc2 y) (hb:ln1≤1000000) :
 Calls Tryz.prog 45 #[.agg #[.int .i64 x.kind,.string ⟨x.key.toArray⟩,.int .i64 x.id,.int .i64 x.no,.int .i64 x.size,.slice LA1 ln1 lc1,.slice BA1 bn1 bc1],.agg #[.int .i64 y.kind,.string ⟨y.key.toArray⟩,.int .i64 y.id,.int .i64 y.no,.int .i64 y.size,.slice LA2 ln2 lc2,.slice BA2 bn2 bc2]] w fun e w'=>e=.returned (.bool (decide (x=y)))∧Below w.heap.size w w':=by
 obtain ⟨k1,s1,i1,n1,z1,ls1,bs1⟩:=x
 obtain ⟨k2,s2,i2,n2,z2,ls2,bs2⟩:=y
 by_cases h:k1=k2∧s1=s2∧i1=i2∧n1=n2∧z1=z2∧bs1=bs2∧ln1=ln2
 ·obtain ⟨rfl,rfl,rfl,rfl,rfl,rfl,rfl⟩:=h
  have e:decide (((⟨k1,s1,i1,n1,z1,ls1,bs1⟩:Rc))=(⟨k1,s1,i1,n1,z1,ls2,bs1⟩:Rc))=decide (ls1=ls2):=decide_eq_decide.2 ⟨fun h=>by injection h,fun h=>by rw [h]⟩
  rw [e]
  exact Zrk _ _ _ _ _ _ _ _ _ _ _ _ _ _ _ _ _ _ _ w h1 h2 hb
 ·have e:¬ ((⟨k1,s1,i1,n1,z1,ls1,bs1⟩:Rc))=(⟨k2,s2,i2,n2,z2,ls2,bs2⟩:Rc):=fun e=>h (by
   have l1:=h1.locs.len
   have l2:=h2.locs.len
   cases e
   exact ⟨rfl,rfl,rfl,rfl,rfl,rfl,l1.symm.trans l2⟩)
  rw [decide_eq_false e]
  exact Ztp _ _ _ _ _ _ _ _ _ _ _ _ _ _ _ _ _ _ _ _ _ _ _ _ _ _ w h1 h2 h
end Go.Proofs.YtkelafkbmnjpeaaGreat
namespace Go.Proofs.YtkelafkbmnjpeaaGreat
open Go.RowKit Go.Maps Go.WideMaps
open Hs
theorem Ztq {w:World} {LA:Option Addr} {ln lc:Nat} {BA:Option Addr} {bn bc:Nat} {r:Rc} (h:RcIn w LA ln lc BA bn bc r) (w':World) (h1:r.locs=[]) (h2:r.b=[]):RcIn w' LA ln lc BA bn bc r:=by
 obtain ⟨hl,hs⟩:=h
 rw [h1] at hl
 rw [h2] at hs
 refine ⟨?_,?_⟩
 ·rw [h1]
  exact ⟨hl.len,hl.cap,hl.bare,⟨hl.row.len,fun k v hk=>by cases k <;> cases hk⟩⟩
 ·rw [h2]
  exact ⟨⟨hs.bytes.len,fun k v hk=>by cases k <;> cases hk⟩,hs.cap,hs.bare⟩
def rcVal (x:Rc) (LA:Option Addr) (ln lc:Nat) (BA:Option Addr) (bn bc:Nat):Array Value:=#[.int .i64 x.kind,.string ⟨x.key.toArray⟩,.int .i64 x.id,.int .i64 x.no,.int .i64 x.size,.slice LA ln lc,.slice BA bn bc]
end Go.Proofs.YtkelafkbmnjpeaaGreat
set_option maxHeartbeats 4000000
set_option maxRecDepth 100000
namespace Go.Proofs.YtkelafkbmnjpeaaGreat
open Go.Lib (hid)
open Go.RowKit
attribute [local irreducible] Go.wpQuiet
theorem Zij {w:World} {B n:Nat} {A:Option Addr} {xs:List Int} (h:Row w B A n (xs.map iV)) {j:Nat} (hj:j < n):∃ ad x,A=some ad∧w.cell? (ad.add j)=some (.int .i64 x)∧xs[j]?=some x∧ad.block < B:=by
 have hl:xs.length=n:=by have:=h.len;simpa using this
 have hx:xs[j]?=some xs[j]:=List.getElem?_eq_getElem (by omega)
 obtain ⟨ad,hA,hb,hc⟩:=h.spot j (iV xs[j]) (by rw [List.getElem?_map,hx];rfl)
 exact ⟨ad,xs[j],hA,hc,hx,hb⟩
theorem Zn9 {α:Type} (xs ys:List α) (j:Nat) (x:α) (h:xs.take j=ys.take j) (h1:xs[j]?=some x) (h2:ys[j]?=some x):xs.take (j+1)=ys.take (j+1):=by
 rw [List.take_add_one,List.take_add_one,h,h1,h2]
theorem Zoa (A:Option Addr) (n c:Nat) (B:Option Addr) (m d:Nat) (xs ys:List Int) (w:World) (ha:Row w w.heap.size A n (xs.map iV)) (hb:Row w w.heap.size B m (ys.map iV)) (hn:n≤1000000000000) :
 Calls Tryz.prog 34 #[.slice A n c,.slice B m d] w fun e w'=>e=.returned (.bool (decide (xs=ys)))∧Grows w w':=by
 have hlx:xs.length=n:=by have:=ha.len;simpa using this
 have hly:ys.length=m:=by have:=hb.len;simpa using this
 obtain ⟨b,hbb⟩:∃ b,decide (xs=ys)=b:=⟨_,rfl⟩
 rw [hbb]
 have HBB:=hid hbb
 have HX:=hid ha
 have HY:=hid hb
 clear ha hb hbb
 by_cases hnm:n=m
 ·have hq:((n:Int) != (m:Int))=false:=by rw [bne_eq_false_iff_eq];omega
  have HNM:=hid hnm
  clear hnm
  go_enter Tryz.func34,Tryz.ntmps34
  go_wp2_with (fail)
  go_loopw [5] (fun i wr=>∃ (j:Nat),j≤n∧i=.int .i64 (j:Int)∧Hid (xs.take j=ys.take j)∧Hid (Grows w wr)) (fun i _=>n - (intOf i).toNat)
  case atStart=>exact ⟨0,by omega,rfl,hid rfl,hid (Grows.refl _)⟩
  case round =>
   obtain ⟨j,hj,rfl,HT,HG⟩:=hrel
   by_cases hlt:j < n
   ·have hlt':(j:Int) < (n:Int):=by omega
    obtain ⟨ad,x,rfl,hc1,hx1,hb1⟩:=Zij HX.out hlt
    obtain ⟨ad2,y,rfl,hc2,hy1,hb2⟩:=Zij HY.out (show j < m by have:=HNM.out;omega)
    have hltm:(j:Int) < (m:Int):=by have:=HNM.out;omega
    have HC1:=hid (show ∀ w',Grows wr w'→w'.cell? (ad.add j)=some (.int .i64 x) from fun w' h=>by
     rw [(Grows.trans HG.out h).cell (by rw [Zk];exact hb1)];exact hc1)
    have HC2:=hid (show ∀ w',Grows wr w'→w'.cell? (ad2.add j)=some (.int .i64 y) from fun w' h=>by
     rw [(Grows.trans HG.out h).cell (by rw [Zk];exact hb2)];exact hc2)
    have HXY:=hid (And.intro hx1 hy1)
    clear hc1 hc2 hx1 hy1
    go_wp2_with (fail)
    refine Yc (by kernel_rfl) (by kernel_rfl) ?_
    iterate 9 (refine q_op' (v:=?_) (a':=?_) (by rfl) ?_ ?_ ?_
               rotate_left 2
               ·intro w' hC
                have c1:=HC1.out w' hC
                have c2:=HC2.out w' hC
                go_simp
                try with_reducible rfl
               ·simp only [Pu]
                try rfl)
    refine wpQuiet_nil ?_
    intro w5 hC
    have HG5:=hid (Grows.trans HG.out hC)
    clear hC
    by_cases hxy:x=y
    ·have hxf:(x != y)=false:=by rw [bne_eq_false_iff_eq];exact hxy
     have HN:=hid (Zn9 xs ys j x HT.out HXY.out.1 (by rw [hxy];exact HXY.out.2))
     clear hxy
     go_wp2_with (fail)
     exact ⟨⟨j+1,by omega,rfl,HN,HG5⟩,by simp [intOf];omega⟩
    ·have hxf:(x != y)=true:=by rw [bne_iff_ne];exact hxy
     have hbf:b=false:=by
      rw [←HBB.out]
      refine decide_eq_false fun e=>hxy ?_
      have h1:=HXY.out.1
      rw [e,HXY.out.2] at h1
      exact (Option.some.inj h1).symm
     have HBF:=hid hbf
     clear hxy hbf
     go_wp2_with (fail)
     go_ret
     rw [HBF.out]
     exact ⟨rfl,HG5.out⟩
   ·obtain rfl:j=n:=by omega
    have hbt:b=true:=by
     rw [←HBB.out]
     refine decide_eq_true ?_
     have h:=HT.out
     rw [List.take_of_length_le (by omega),List.take_of_length_le (by have:=HNM.out;omega)] at h
     exact h
    have HBT:=hid hbt
    clear hbt
    go_wp2_with (fail)
    go_ret
    rw [HBT.out]
    exact ⟨rfl,HG.out⟩
 ·have hq:((n:Int) != (m:Int))=true:=by rw [bne_iff_ne];omega
  have hbf:b=false:=by
   rw [←HBB.out]
   refine decide_eq_false fun e=>hnm ?_
   rw [←hlx,←hly,e]
  have HBF:=hid hbf
  clear hbf hnm
  go_enter Tryz.func34,Tryz.ntmps34
  go_wp2_with (fail)
  go_ret
  rw [HBF.out]
  exact ⟨rfl,Grows.refl _⟩
end Go.Proofs.YtkelafkbmnjpeaaGreat
