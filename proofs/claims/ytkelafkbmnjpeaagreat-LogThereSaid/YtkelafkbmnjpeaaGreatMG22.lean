/-
  Texts that the statements lean on, one behind the other.
-/
import Derived.Test.YtkelafkbmnjpeaaGreatMG19
import Derived.Test.YtkelafkbmnjpeaaGreatMG20
import Derived.Test.YtkelafkbmnjpeaaGreatMG17
import Derived.Test.YtkelafkbmnjpeaaGreatMG15
import Derived.OwnWalk
import Derived.Test.YtkelafkbmnjpeaaGreatSgAll
import Derived.Test.YtkelafkbmnjpeaaGreatMG21
import Derived.Test.YtkelafkbmnjpeaaGreatMG09
set_option linter.unusedSimpArgs false
set_option linter.unusedVariables false
set_option maxHeartbeats 4000000
set_option maxRecDepth 100000
namespace Go.Proofs.YtkelafkbmnjpeaaGreat
open Go.Lib (hid)
open Go.RowKit
def Zah (m:Dk) (n:Int) (x:Int):Option (List UInt8)×Int :=
 if (m.read (nmS n) x 4).2=0 then
  (if (Zi ((m.read (nmS n) x 4).1.getD [])).2.2=21 then
    (if (m.read (nmS n) x (sizeN (toldN ((m.read (nmS n) x 4).1.getD [])))).2=1 then (none,21) else m.read (nmS n) x (sizeN (toldN ((m.read (nmS n) x 4).1.getD []))))
   else (none,22))
 else (none,(m.read (nmS n) x 4).2)
section
variable {B d K:Nat} {w0 w:World} {out:Nat→Prop} {m:Dk}
theorem Zk5 (w:World) (n x:Int) (h:DkIn B w0 w d out m) (ok:DkOk K m) (hK:K≤100000000) (hx:-9223372036854775808≤x∧x≤9223372036854775807) :
 Calls Tryz.prog 146 #[.agg (segV d n),.int .i64 x] w fun e w'=>GotTo w (Zah m n x) e w':=by
 have hsm:=Yw n
 obtain ⟨⟨rb,ec⟩,hrd⟩:∃ q,m.read (nmS n) x 4=q:=⟨_,rfl⟩
 have hlen:=fun h0=>Zda (m:=m) (n:=nmS n) (x:=x) (k:=4) h0
 have hr1:=fun w' (hg:Grows w w')=>Zdb (nmS n) x 4 (h.grow hg) ok (by omega) (by omega) hx (by omega) hrd
 have hr2:=fun (k:Int) (hk:-9223372036854775808≤k∧k≤9223372036854775807) w' (hg:Grows w w')=>Zdb (nmS n) x k (h.grow hg) ok (by omega) (by omega) hx hk rfl
 unfold Zah
 rw [hrd] at hlen ⊢
 dsimp only at hlen ⊢
 unfold segV
 obtain ⟨s,hs⟩:∃ s:ByteArray,(⟨(nmS n).toArray⟩:ByteArray)=s:=⟨_,rfl⟩
 rw [hs] at hr1 hr2 ⊢
 have HSB:=hid hs
 have HR1:=hid hr1
 have HR2:=hid hr2
 unfold GotTo at HR1
 dsimp only at HR1
 clear h ok hK hrd hr1 hr2 hs hsm
 by_cases hec:ec=0
 rotate_left 1
 ·have hzb:(ec != 0)=true:=by rw [bne_iff_ne];exact hec
  rw [if_neg hec]
  clear hec hlen
  go_enter Tryz.func146,Tryz.ntmps146
  have hwm:=Whole.made w 176 #[.pointer (some ⟨d,0,none⟩),.int .i64 n,.string s]
  have c0:=hwm.cell 0
  have c2:=hwm.cell 2
  simp only [Gt] at c0 c2
  have HWM:=hid hwm
  have HG0:=hid (Zb w (.cells #[.pointer (some ⟨d,0,none⟩),.int .i64 n,.string s] 176))
  clear hwm
  go_wp2_with (fail)
  refine (HR1.out _ HG0.out).mono ?_
  rintro e w1 ⟨HA,hc,rfl,hsl,hg⟩
  have HSL:=hid hsl
  have HG1:=hid (Grows.trans HG0.out hg)
  have HW1:=hid (hg.whole HWM.out)
  clear hsl hg c0 c2
  go_wp2_with (fail)
  go_ret2
  exact ⟨none,0,rfl,Sl.nil _,HG1.out⟩
 subst hec
 rw [if_pos rfl]
 obtain ⟨bs,rfl,hbl⟩:=hlen rfl
 have hbl:bs.length=4:=by omega
 simp only [Option.getD_some] at HR1 ⊢
 rw [hbl] at HR1
 clear hlen
 obtain ⟨fe,hfe⟩:∃ q,(Zi bs).2.2=q:=⟨_,rfl⟩
 rw [hfe]
 by_cases h21:fe=21
 rotate_left 1
 ·have hnb:((fe:Int) != 21)=true:=by rw [bne_iff_ne];omega
  rw [if_neg h21]
  have HFE:=hid hfe
  clear h21 hfe
  go_enter Tryz.func146,Tryz.ntmps146
  have hwm:=Whole.made w 176 #[.pointer (some ⟨d,0,none⟩),.int .i64 n,.string s]
  have c0:=hwm.cell 0
  have c2:=hwm.cell 2
  simp only [Gt] at c0 c2
  have HWM:=hid hwm
  have HG0:=hid (Zb w (.cells #[.pointer (some ⟨d,0,none⟩),.int .i64 n,.string s] 176))
  clear hwm
  go_wp2_with (fail)
  refine (HR1.out _ HG0.out).mono ?_
  rintro e w1 ⟨HA,hc,rfl,hsl,hg⟩
  have HSL:=hid hsl
  have HG1:=hid (Grows.trans HG0.out hg)
  have HW1:=hid (hg.whole HWM.out)
  clear hsl hg c0 c2
  go_wp2_with (fail)
  refine (Jk HA 4 hc bs w1 HSL.out (by omega)).mono ?_
  rintro e w2 ⟨A2,n2,c2,rfl,ho2,hb2⟩
  have HG2:=hid (Grows.trans HG1.out hb2)
  have HW2:=hid (Grows.whole hb2 HW1.out)
  have hs2:=Sl.grow hb2 HSL.out
  have HS2:=hid hs2
  clear ho2 hb2 hs2
  rw [HFE.out]
  go_wp2_with (fail)
  go_ret2
  exact ⟨none,0,rfl,Sl.nil _,HG2.out⟩
 subst h21
 rw [if_pos rfl]
 have HFE:=hid hfe
 clear hfe
 obtain ⟨L,hL⟩:∃ L,toldN bs=L:=⟨_,rfl⟩
 have hLb:L < 65536:=by rw [←hL];unfold toldN;have:=(bs.getD 0 0).toNat_lt;have:=(bs.getD 1 0).toNat_lt;omega
 rw [hL]
 have HL:=hid hL
 obtain ⟨z,hz⟩:∃ z,sizeN (L:Int)=z:=⟨_,rfl⟩
 have hzb:-9223372036854775808≤z∧z≤9223372036854775807:=by rw [←hz];unfold sizeN;split <;> omega
 have HSN:=hid (fun w'=>Yo (L:Int) w' (by omega) (by omega))
 rw [hz] at HSN ⊢
 have hrz:=HR2.out z hzb
 obtain ⟨⟨qb,qe⟩,hq⟩:∃ q,m.read (nmS n) x z=q:=⟨_,rfl⟩
 rw [hq] at hrz ⊢
 have HQ:=hid hrz
 unfold GotTo at HQ
 dsimp only at HQ
 clear hL hLb hz hzb hrz hq
 obtain ⟨qs,hqs⟩:∃ qs,qb.getD []=qs:=⟨_,rfl⟩
 have HQE:=hid hqs
 rw [hqs] at HQ
 clear hqs
 by_cases hq1:qe=1
 ·have hqb:(qe==1)=true:=by rw [beq_iff_eq];exact hq1
  rw [if_pos hq1]
  clear hq1
  go_enter Tryz.func146,Tryz.ntmps146
  have hwm:=Whole.made w 176 #[.pointer (some ⟨d,0,none⟩),.int .i64 n,.string s]
  have c0:=hwm.cell 0
  have c2:=hwm.cell 2
  simp only [Gt] at c0 c2
  have HWM:=hid hwm
  have HG0:=hid (Zb w (.cells #[.pointer (some ⟨d,0,none⟩),.int .i64 n,.string s] 176))
  clear hwm
  go_wp2_with (fail)
  refine (HR1.out _ HG0.out).mono ?_
  rintro e w1 ⟨HA,hc,rfl,hsl,hg⟩
  have HSL:=hid hsl
  have HG1:=hid (Grows.trans HG0.out hg)
  have HW1:=hid (hg.whole HWM.out)
  clear hsl hg c0 c2
  go_wp2_with (fail)
  refine (Jk HA 4 hc bs w1 HSL.out (by omega)).mono ?_
  rintro e w2 ⟨A2,n2,c2,rfl,ho2,hb2⟩
  have HG2:=hid (Grows.trans HG1.out hb2)
  have HW2:=hid (Grows.whole hb2 HW1.out)
  have hs2:=Sl.grow hb2 HSL.out
  have HS2:=hid hs2
  clear ho2 hb2 hs2
  rw [HFE.out]
  go_wp2_with (fail)
  have h0:=HS2.out.bytes.spot (k:=0) (by omega)
  have h1:=HS2.out.bytes.spot (k:=1) (by omega)
  obtain ⟨ad,rfl,hb0,hc0⟩:=h0
  obtain ⟨ad',e,_,hc1⟩:=h1
  injection e with e
  subst e
  obtain ⟨b0,hb0e⟩:∃ b,bs.getD 0 0=b:=⟨_,rfl⟩
  obtain ⟨b1,hb1e⟩:∃ b,bs.getD 1 0=b:=⟨_,rfl⟩
  rw [hb0e,Addr.add_zero'] at hc0
  rw [hb1e] at hc1
  have htold:toldN bs=256*b0.toNat+b1.toNat:=by unfold toldN;rw [hb0e,hb1e]
  rw [HL.out] at htold
  have hor:=Za7 b0.toNat b1.toNat b0.toNat_lt b1.toNat_lt
  rw [←htold,IntWalk.wrap64_in (b0.toNat:Int) (by have:=b0.toNat_lt;omega),IntWalk.wrap64_in (b1.toNat:Int) (by have:=b1.toNat_lt;omega),IntWalk.wrap64_in ((b0.toNat:Int)*256) (by have:=b0.toNat_lt;omega)] at hor
  have hor:(IntKind.i64.wrap (b0.toNat:Int)=(b0.toNat:Int)∧IntKind.i64.wrap (b1.toNat:Int)=(b1.toNat:Int)∧IntKind.i64.wrap ((b0.toNat:Int)*256)=(b0.toNat:Int)*256)∧bits BinOp.or IntKind.i64 ((b0.toNat:Int)*256) (b1.toNat:Int)=(L:Int):=⟨⟨IntWalk.i64_in _ (by have:=b0.toNat_lt;omega),IntWalk.i64_in _ (by have:=b1.toNat_lt;omega),IntWalk.i64_in _ (by have:=b0.toNat_lt;omega)⟩,hor⟩
  rw [Addr.add_succ' ad 0] at hc1
  have HC:=hid (show ∀ w',Grows w2 w'→(w'.cell? ad=some (.int .u8 (b0.toNat:Nat))∧w'.cell? { block:=ad.block,off:=ad.off+(0+1) }=some (.int .u8 (b1.toNat:Nat)))∧w'.cell? { block:=w.heap.size,off:=0 }=some (.pointer (some ⟨d,0,none⟩))∧w'.cell? { block:=w.heap.size,off:=2 }=some (.string s) from fun w' hC=>by
   have hx:=hC.whole HW2.out
   exact ⟨⟨(hC.cell hb0).trans hc0,(hC.cell (show ({ block:=ad.block,off:=ad.off+(0+1) }:Addr).block < w2.heap.size from hb0)).trans hc1⟩,hx.cell 0,hx.cell 2⟩)
  have HOR:=hid hor
  clear hb0 hc0 hc1 hb0e hb1e htold hor
  refine Zg (E:=Grows) [Za (.pointer (some ⟨w.heap.size,0,none⟩)),Za (.pointer (some ⟨d,0,none⟩)),Za (.pointer (some ⟨w.heap.size,2,none⟩)),Za (.string s),Za (.int .i64 x),Za (.slice (some ad) 4 hc),Za (.pointer (some ad)),Za (.int .u8 (b0.toNat:Nat)),Za (.int .i64 (b0.toNat:Nat)),Za (.int .i64 ((b0.toNat:Nat)*256)),Za (.slice (some ad) 4 hc),Za (.pointer (some (ad.add 1))),Za (.int .u8 (b1.toNat:Nat)),Za (.int .i64 (b1.toNat:Nat)),Za (.int .i64 (L:Nat)),Za (.int .i64 z),Jo (qs) (qe),Jo (qs) (qe),Jq (qs),Za (.int .i64 qe),Jq (qs),Za (.int .i64 qe)] (by kernel_rfl) (by kernel_rfl) (fun _ _ _=>Grows.trans) (Ze _) ?_
  refine f_val _ (by rfl) ?_ ?_
  ·intro w' hC;clear hC;go_simp
  simp only [Pu]
  refine f_val _ (by rfl) ?_ ?_
  ·intro w' hC;obtain ⟨⟨x0,x1⟩,x2,x3⟩:=HC.out w' hC;clear hC;go_simp
  simp only [Pu]
  refine f_val _ (by rfl) ?_ ?_
  ·intro w' hC;clear hC;go_simp
  simp only [Pu]
  refine f_val _ (by rfl) ?_ ?_
  ·intro w' hC;obtain ⟨⟨x0,x1⟩,x2,x3⟩:=HC.out w' hC;clear hC;go_simp
  simp only [Pu]
  iterate 3
   refine f_val _ (by rfl) ?_ ?_
   ·intro w' hC;clear hC;go_simp
   simp only [Pu]
  refine f_val _ (by rfl) ?_ ?_
  ·intro w' hC;obtain ⟨⟨x0,x1⟩,x2,x3⟩:=HC.out w' hC;clear hC;go_simp
  simp only [Pu]
  iterate 2
   refine f_val _ (by rfl) ?_ ?_
   ·intro w' hC;obtain ⟨⟨z1,z2,z3⟩,z4⟩:=HOR.out;clear hC;go_simp
   simp only [Pu]
  iterate 2
   refine f_val _ (by rfl) ?_ ?_
   ·intro w' hC;clear hC;go_simp
   simp only [Pu]
  refine f_val _ (by rfl) ?_ ?_
  ·intro w' hC;obtain ⟨⟨x0,x1⟩,x2,x3⟩:=HC.out w' hC;clear hC;go_simp
  simp only [Pu]
  iterate 2
   refine f_val _ (by rfl) ?_ ?_
   ·intro w' hC;obtain ⟨⟨z1,z2,z3⟩,z4⟩:=HOR.out;clear hC;go_simp
   simp only [Pu]
  refine Zv 86 #[.int .i64 (L:Nat)] (.int .i64 z) (by rfl) (by intro w' hC;clear hC;go_simp) ?_ ?_
  ·intro w' hC hks;exact (HSN.out w').mono fun e w'' hh=>⟨hh.1,hh.2 ▸ Grows.refl _⟩
  simp only [Pu]
  refine f_got (qs) (qe) 93 #[.pointer (some ⟨d,0,none⟩),.string s,.int .i64 x,.int .i64 z] (by rfl) (by intro w' hC;clear hC;go_simp) ?_ ?_
  ·intro w' hC hks;exact HQ.out w' (Grows.trans HG2.out hC)
  intro Q1 p1
  simp only [Pu]
  refine Zjx (qs) (qe) Q1 p1 (by rfl) ?_ ?_
  ·intro w' hC hks;refine ⟨?_,Known.get hks 0 rfl rfl⟩;clear hC hks;go_simp
  intro Q2 p2
  simp only [Pu]
  refine f_slv (qs) Q2 p2 (by rfl) ?_ ?_
  ·intro w' hC hks;refine ⟨?_,Known.get hks 0 rfl rfl⟩;clear hC hks;go_simp
  intro Q3 p3
  simp only [Pu]
  refine f_val _ (by rfl) ?_ ?_
  ·intro w' hC;clear hC;go_simp
  simp only [Pu]
  refine f_slv (qs) Q3 p3 (by rfl) ?_ ?_
  ·intro w' hC hks;refine ⟨?_,Known.get hks 0 rfl rfl⟩;clear hC hks;go_simp
  intro QA qc
  simp only [Pu]
  refine f_val _ (by rfl) ?_ ?_
  ·intro w' hC;clear hC;go_simp
  simp only [Pu]
  intro w7 hC hks
  have HCw7:=hid hC
  have HSQ:=hid (Known.at hks 0 rfl)
  clear hC hks
  have HQS:=hid (And.intro HSQ.out (Grows.trans HG2.out HCw7.out))
  go_wp2_with (fail)
  go_ret2
  exact ⟨none,0,rfl,Sl.nil _,HQS.out.2⟩
 have hqb:(qe==1)=false:=by rw [beq_eq_false_iff_ne];exact hq1
 rw [if_neg hq1]
 clear hq1
 go_enter Tryz.func146,Tryz.ntmps146
 have hwm:=Whole.made w 176 #[.pointer (some ⟨d,0,none⟩),.int .i64 n,.string s]
 have c0:=hwm.cell 0
 have c2:=hwm.cell 2
 simp only [Gt] at c0 c2
 have HWM:=hid hwm
 have HG0:=hid (Zb w (.cells #[.pointer (some ⟨d,0,none⟩),.int .i64 n,.string s] 176))
 clear hwm
 go_wp2_with (fail)
 refine (HR1.out _ HG0.out).mono ?_
 rintro e w1 ⟨HA,hc,rfl,hsl,hg⟩
 have HSL:=hid hsl
 have HG1:=hid (Grows.trans HG0.out hg)
 have HW1:=hid (hg.whole HWM.out)
 clear hsl hg c0 c2
 go_wp2_with (fail)
 refine (Jk HA 4 hc bs w1 HSL.out (by omega)).mono ?_
 rintro e w2 ⟨A2,n2,c2,rfl,ho2,hb2⟩
 have HG2:=hid (Grows.trans HG1.out hb2)
 have HW2:=hid (Grows.whole hb2 HW1.out)
 have hs2:=Sl.grow hb2 HSL.out
 have HS2:=hid hs2
 clear ho2 hb2 hs2
 rw [HFE.out]
 go_wp2_with (fail)
 have h0:=HS2.out.bytes.spot (k:=0) (by omega)
 have h1:=HS2.out.bytes.spot (k:=1) (by omega)
 obtain ⟨ad,rfl,hb0,hc0⟩:=h0
 obtain ⟨ad',e,_,hc1⟩:=h1
 injection e with e
 subst e
 obtain ⟨b0,hb0e⟩:∃ b,bs.getD 0 0=b:=⟨_,rfl⟩
 obtain ⟨b1,hb1e⟩:∃ b,bs.getD 1 0=b:=⟨_,rfl⟩
 rw [hb0e,Addr.add_zero'] at hc0
 rw [hb1e] at hc1
 have htold:toldN bs=256*b0.toNat+b1.toNat:=by unfold toldN;rw [hb0e,hb1e]
 rw [HL.out] at htold
 have hor:=Za7 b0.toNat b1.toNat b0.toNat_lt b1.toNat_lt
 rw [←htold,IntWalk.wrap64_in (b0.toNat:Int) (by have:=b0.toNat_lt;omega),IntWalk.wrap64_in (b1.toNat:Int) (by have:=b1.toNat_lt;omega),IntWalk.wrap64_in ((b0.toNat:Int)*256) (by have:=b0.toNat_lt;omega)] at hor
 have hor:(IntKind.i64.wrap (b0.toNat:Int)=(b0.toNat:Int)∧IntKind.i64.wrap (b1.toNat:Int)=(b1.toNat:Int)∧IntKind.i64.wrap ((b0.toNat:Int)*256)=(b0.toNat:Int)*256)∧bits BinOp.or IntKind.i64 ((b0.toNat:Int)*256) (b1.toNat:Int)=(L:Int):=⟨⟨IntWalk.i64_in _ (by have:=b0.toNat_lt;omega),IntWalk.i64_in _ (by have:=b1.toNat_lt;omega),IntWalk.i64_in _ (by have:=b0.toNat_lt;omega)⟩,hor⟩
 rw [Addr.add_succ' ad 0] at hc1
 have HC:=hid (show ∀ w',Grows w2 w'→(w'.cell? ad=some (.int .u8 (b0.toNat:Nat))∧w'.cell? { block:=ad.block,off:=ad.off+(0+1) }=some (.int .u8 (b1.toNat:Nat)))∧w'.cell? { block:=w.heap.size,off:=0 }=some (.pointer (some ⟨d,0,none⟩))∧w'.cell? { block:=w.heap.size,off:=2 }=some (.string s) from fun w' hC=>by
  have hx:=hC.whole HW2.out
  exact ⟨⟨(hC.cell hb0).trans hc0,(hC.cell (show ({ block:=ad.block,off:=ad.off+(0+1) }:Addr).block < w2.heap.size from hb0)).trans hc1⟩,hx.cell 0,hx.cell 2⟩)
 have HOR:=hid hor
 clear hb0 hc0 hc1 hb0e hb1e htold hor
 refine Zg (E:=Grows) [Za (.pointer (some ⟨w.heap.size,0,none⟩)),Za (.pointer (some ⟨d,0,none⟩)),Za (.pointer (some ⟨w.heap.size,2,none⟩)),Za (.string s),Za (.int .i64 x),Za (.slice (some ad) 4 hc),Za (.pointer (some ad)),Za (.int .u8 (b0.toNat:Nat)),Za (.int .i64 (b0.toNat:Nat)),Za (.int .i64 ((b0.toNat:Nat)*256)),Za (.slice (some ad) 4 hc),Za (.pointer (some (ad.add 1))),Za (.int .u8 (b1.toNat:Nat)),Za (.int .i64 (b1.toNat:Nat)),Za (.int .i64 (L:Nat)),Za (.int .i64 z),Jo (qs) (qe),Jo (qs) (qe),Jq (qs),Za (.int .i64 qe),Jq (qs),Za (.int .i64 qe)] (by kernel_rfl) (by kernel_rfl) (fun _ _ _=>Grows.trans) (Ze _) ?_
 refine f_val _ (by rfl) ?_ ?_
 ·intro w' hC;clear hC;go_simp
 simp only [Pu]
 refine f_val _ (by rfl) ?_ ?_
 ·intro w' hC;obtain ⟨⟨x0,x1⟩,x2,x3⟩:=HC.out w' hC;clear hC;go_simp
 simp only [Pu]
 refine f_val _ (by rfl) ?_ ?_
 ·intro w' hC;clear hC;go_simp
 simp only [Pu]
 refine f_val _ (by rfl) ?_ ?_
 ·intro w' hC;obtain ⟨⟨x0,x1⟩,x2,x3⟩:=HC.out w' hC;clear hC;go_simp
 simp only [Pu]
 iterate 3
  refine f_val _ (by rfl) ?_ ?_
  ·intro w' hC;clear hC;go_simp
  simp only [Pu]
 refine f_val _ (by rfl) ?_ ?_
 ·intro w' hC;obtain ⟨⟨x0,x1⟩,x2,x3⟩:=HC.out w' hC;clear hC;go_simp
 simp only [Pu]
 iterate 2
  refine f_val _ (by rfl) ?_ ?_
  ·intro w' hC;obtain ⟨⟨z1,z2,z3⟩,z4⟩:=HOR.out;clear hC;go_simp
  simp only [Pu]
 iterate 2
  refine f_val _ (by rfl) ?_ ?_
  ·intro w' hC;clear hC;go_simp
  simp only [Pu]
 refine f_val _ (by rfl) ?_ ?_
 ·intro w' hC;obtain ⟨⟨x0,x1⟩,x2,x3⟩:=HC.out w' hC;clear hC;go_simp
 simp only [Pu]
 iterate 2
  refine f_val _ (by rfl) ?_ ?_
  ·intro w' hC;obtain ⟨⟨z1,z2,z3⟩,z4⟩:=HOR.out;clear hC;go_simp
  simp only [Pu]
 refine Zv 86 #[.int .i64 (L:Nat)] (.int .i64 z) (by rfl) (by intro w' hC;clear hC;go_simp) ?_ ?_
 ·intro w' hC hks;exact (HSN.out w').mono fun e w'' hh=>⟨hh.1,hh.2 ▸ Grows.refl _⟩
 simp only [Pu]
 refine f_got (qs) (qe) 93 #[.pointer (some ⟨d,0,none⟩),.string s,.int .i64 x,.int .i64 z] (by rfl) (by intro w' hC;clear hC;go_simp) ?_ ?_
 ·intro w' hC hks;exact HQ.out w' (Grows.trans HG2.out hC)
 intro Q1 p1
 simp only [Pu]
 refine Zjx (qs) (qe) Q1 p1 (by rfl) ?_ ?_
 ·intro w' hC hks;refine ⟨?_,Known.get hks 0 rfl rfl⟩;clear hC hks;go_simp
 intro Q2 p2
 simp only [Pu]
 refine f_slv (qs) Q2 p2 (by rfl) ?_ ?_
 ·intro w' hC hks;refine ⟨?_,Known.get hks 0 rfl rfl⟩;clear hC hks;go_simp
 intro Q3 p3
 simp only [Pu]
 refine f_val _ (by rfl) ?_ ?_
 ·intro w' hC;clear hC;go_simp
 simp only [Pu]
 refine f_slv (qs) Q3 p3 (by rfl) ?_ ?_
 ·intro w' hC hks;refine ⟨?_,Known.get hks 0 rfl rfl⟩;clear hC hks;go_simp
 intro QA qc
 simp only [Pu]
 refine f_val _ (by rfl) ?_ ?_
 ·intro w' hC;clear hC;go_simp
 simp only [Pu]
 intro w7 hC hks
 have HCw7:=hid hC
 have HSQ:=hid (Known.at hks 0 rfl)
 clear hC hks
 have HQS:=hid (And.intro HSQ.out (Grows.trans HG2.out HCw7.out))
 go_wp2_with (fail)
 go_ret2
 refine ⟨QA,qc,?_,?_,HQS.out.2⟩
 ·dsimp only
  rw [HQE.out]
  rfl
 ·dsimp only
  rw [HQE.out]
  exact HQS.out.1
end
end Go.Proofs.YtkelafkbmnjpeaaGreat
set_option maxHeartbeats 4000000
set_option maxRecDepth 100000
namespace Go.Proofs.YtkelafkbmnjpeaaGreat
open Go.Lib (hid)
open Go.RowKit
def getP (m:Dk) (n:Int) (x:Int):Rc×Int :=
 if (Zah m n x).2=0 then
  (if (Zi ((Zah m n x).1.getD [])).2.2=0 then
    (if (getR (Zi ((Zah m n x).1.getD [])).1).isSome=true then ((getR (Zi ((Zah m n x).1.getD [])).1).getD Rc.none,0) else (Rc.none,22))
   else (Rc.none,((Zi ((Zah m n x).1.getD [])).2.2:Nat)))
 else (Rc.none,(Zah m n x).2)
theorem Zk4 (n:Int):sizeN n≤8200:=by unfold sizeN;split <;> omega
theorem Znt {m:Dk} {n x:Int} (h:(Zah m n x).2=0):((Zah m n x).1.getD []).length≤8200:=by
 unfold Zah at *
 by_cases h1:(m.read (nmS n) x 4).2=0
 ·rw [if_pos h1] at h ⊢
  by_cases h2:(Zi ((m.read (nmS n) x 4).1.getD [])).2.2=21
  ·rw [if_pos h2] at h ⊢
   by_cases h3:(m.read (nmS n) x (sizeN (toldN ((m.read (nmS n) x 4).1.getD [])))).2=1
   ·rw [if_pos h3] at h;cases h
   ·rw [if_neg h3] at h ⊢
    obtain ⟨bs,e,hl⟩:=Zda h
    rw [e]
    have:=Zk4 (toldN ((m.read (nmS n) x 4).1.getD []):Int)
    show bs.length≤8200
    omega
  ·rw [if_neg h2] at h;cases h
 ·rw [if_neg h1] at h
  exact absurd h h1
theorem Znu (bs:List UInt8):(Zi bs).1.length≤bs.length:=by
 unfold Zi
 repeat' split
 all_goals (try simp only [List.length_nil,List.length_take,List.length_drop]) <;> omega
def rcV (r:Rc) (LA:Option Addr) (ln lc:Nat) (BA:Option Addr) (bn bc:Nat):Value:=.agg #[.int .i64 r.kind,.string ⟨r.key.toArray⟩,.int .i64 r.id,.int .i64 r.no,.int .i64 r.size,.slice LA ln lc,.slice BA bn bc]
section
variable {B d K:Nat} {w0 w:World} {out:Nat→Prop} {m:Dk}
theorem Znv (w:World) (n x:Int) (h:DkIn B w0 w d out m) (ok:DkOk K m) (hK:K≤100000000) (hx:-9223372036854775808≤x∧x≤9223372036854775807) :
 Calls Tryz.prog 91 #[.pointer (some ⟨d,0,none⟩),.int .i64 n,.int .i64 x] w fun e w'=>∃ LA ln lc BA bn bc,e=.returned (.tuple #[rcV (getP m n x).1 LA ln lc BA bn bc,.int .i64 (getP m n x).2])∧RcOwn w' w.heap.size LA ln lc BA bn bc (getP m n x).1∧Grows w w':=by
 have HO:=hid (fun w'=>Zby w' d n)
 have HF:=hid (fun w' (hg:Grows w w')=>Zk5 w' n x (h.grow hg) ok hK hx)
 have hfl:=fun h0=>Znt (m:=m) (n:=n) (x:=x) h0
 unfold getP rcV
 obtain ⟨⟨fb,fe⟩,hfr⟩:∃ q,Zah m n x=q:=⟨_,rfl⟩
 rw [hfr] at HF hfl ⊢
 unfold GotTo at HF
 dsimp only at HF hfl ⊢
 obtain ⟨bs,hbs⟩:∃ q,fb.getD []=q:=⟨_,rfl⟩
 rw [hbs] at HF hfl ⊢
 obtain ⟨sv,hsv⟩:∃ q,segV d n=q:=⟨_,rfl⟩
 rw [hsv] at HF HO
 clear h ok hK hfr hbs hsv
 by_cases hf:fe=0
 rotate_left 1
 ·have hzb:(fe != 0)=true:=by rw [bne_iff_ne];exact hf
  rw [if_neg hf]
  clear hf hfl
  go_enter Tryz.func91,Tryz.ntmps91
  go_wp2_with (fail)
  refine (HO.out _).mono ?_
  rintro e w1 ⟨rfl,hg1⟩
  have HG1:=hid (Grows.trans (Zb w (.cells #[.int .i64 0,.string ⟨#[]⟩,.int .i64 0,.int .i64 0,.int .i64 0,.slice none 0 0,.slice none 0 0] 39)) hg1)
  have HZ1:=hid (hg1.whole (Whole.made w 39 #[.int .i64 0,.string ⟨#[]⟩,.int .i64 0,.int .i64 0,.int .i64 0,.slice none 0 0,.slice none 0 0]))
  clear hg1
  go_wp2_with (fail)
  refine (HF.out w1 HG1.out).mono ?_
  rintro e w2 ⟨FA,fc,rfl,hsl,hg⟩
  have HSL:=hid hsl
  have HG:=hid (Grows.trans HG1.out hg)
  have HZ:=hid (hg.whole HZ1.out)
  clear hsl hg
  have zc0:=HZ.out.cell 0
  have zf0:=HZ.out.free 0
  have zc1:=HZ.out.cell 1
  have zf1:=HZ.out.free 1
  have zc2:=HZ.out.cell 2
  have zf2:=HZ.out.free 2
  have zc3:=HZ.out.cell 3
  have zf3:=HZ.out.free 3
  have zc4:=HZ.out.cell 4
  have zf4:=HZ.out.free 4
  have zc5:=HZ.out.cell 5
  have zf5:=HZ.out.free 5
  have zc6:=HZ.out.cell 6
  have zf6:=HZ.out.free 6
  simp only [Gt] at zc0 zc1 zc2 zc3 zc4 zc5 zc6
  go_wp2_with (fail)
  obtain ⟨W,hW,hwh,hwt⟩:=Y6 HZ.out (.int .i64 0) (.string ⟨#[]⟩) (.int .i64 0) (.int .i64 0) (.int .i64 0) (.slice none 0 0) (.slice none 0 0)
  rw [hW]
  have hbW:=hwt.below (by have:=HZ.out.lt;omega)
  clear hW
  refine bodyPost_ret (Zn rfl _ _ w.heap.size _ _ _ _ _ _ _ _ (.int .i64 fe) rfl rfl hwh) rfl ?_
  exact ⟨none,0,0,none,0,0,rfl,RcOwn.nil W _ 0 [] 0 0 0,Below.trans HG.out hbW⟩
 subst hf
 rw [if_pos rfl]
 have HFL:=hid (hfl rfl)
 have HFB:=hid (Znu bs)
 clear hfl
 obtain ⟨fq,hfq⟩:∃ q,(Zi bs).2.2=q:=⟨_,rfl⟩
 rw [hfq]
 have HFE:=hid hfq
 clear hfq
 by_cases hz:fq=0
 rotate_left 1
 ·have hzb:((fq:Int) != 0)=true:=by rw [bne_iff_ne];omega
  rw [if_neg hz]
  clear hz
  go_enter Tryz.func91,Tryz.ntmps91
  go_wp2_with (fail)
  refine (HO.out _).mono ?_
  rintro e w1 ⟨rfl,hg1⟩
  have HG1:=hid (Grows.trans (Zb w (.cells #[.int .i64 0,.string ⟨#[]⟩,.int .i64 0,.int .i64 0,.int .i64 0,.slice none 0 0,.slice none 0 0] 39)) hg1)
  have HZ1:=hid (hg1.whole (Whole.made w 39 #[.int .i64 0,.string ⟨#[]⟩,.int .i64 0,.int .i64 0,.int .i64 0,.slice none 0 0,.slice none 0 0]))
  clear hg1
  go_wp2_with (fail)
  refine (HF.out w1 HG1.out).mono ?_
  rintro e w2 ⟨FA,fc,rfl,hsl,hg⟩
  have HSL:=hid hsl
  have HG:=hid (Grows.trans HG1.out hg)
  have HZ:=hid (hg.whole HZ1.out)
  clear hsl hg
  go_wp2_with (fail)
  refine (Jk FA bs.length fc bs w2 HSL.out (by have:=HFL.out;omega)).mono ?_
  rintro e w3 ⟨A2,n2,c2,rfl,ho2,hb2⟩
  have HG':=hid (Grows.trans HG.out hb2)
  have HZ':=hid (Grows.whole hb2 HZ.out)
  have HS2:=hid (Sl.owned ho2)
  clear HG HZ
  have HG:=HG'
  have HZ:=HZ'
  clear HG' HZ' ho2 hb2
  rw [HFE.out]
  have zc0:=HZ.out.cell 0
  have zf0:=HZ.out.free 0
  have zc1:=HZ.out.cell 1
  have zf1:=HZ.out.free 1
  have zc2:=HZ.out.cell 2
  have zf2:=HZ.out.free 2
  have zc3:=HZ.out.cell 3
  have zf3:=HZ.out.free 3
  have zc4:=HZ.out.cell 4
  have zf4:=HZ.out.free 4
  have zc5:=HZ.out.cell 5
  have zf5:=HZ.out.free 5
  have zc6:=HZ.out.cell 6
  have zf6:=HZ.out.free 6
  simp only [Gt] at zc0 zc1 zc2 zc3 zc4 zc5 zc6
  go_wp2_with (fail)
  obtain ⟨W,hW,hwh,hwt⟩:=Y6 HZ.out (.int .i64 0) (.string ⟨#[]⟩) (.int .i64 0) (.int .i64 0) (.int .i64 0) (.slice none 0 0) (.slice none 0 0)
  rw [hW]
  have hbW:=hwt.below (by have:=HZ.out.lt;omega)
  clear hW
  refine bodyPost_ret (Zn rfl _ _ w.heap.size _ _ _ _ _ _ _ _ (.int .i64 (fq:Int)) rfl rfl hwh) rfl ?_
  exact ⟨none,0,0,none,0,0,rfl,RcOwn.nil W _ 0 [] 0 0 0,Below.trans HG.out hbW⟩
 subst hz
 rw [if_pos rfl]
 obtain ⟨ro,hro⟩:∃ q,(getR (Zi bs).1).getD Rc.none=q:=⟨_,rfl⟩
 obtain ⟨so,hso⟩:∃ q,(getR (Zi bs).1).isSome=q:=⟨_,rfl⟩
 rw [hro,hso]
 have HRO:=hid hro
 have HSO:=hid hso
 clear hro hso
 cases so with
 | false =>
   rw [if_neg (by decide)]
   go_enter Tryz.func91,Tryz.ntmps91
   go_wp2_with (fail)
   refine (HO.out _).mono ?_
   rintro e w1 ⟨rfl,hg1⟩
   have HG1:=hid (Grows.trans (Zb w (.cells #[.int .i64 0,.string ⟨#[]⟩,.int .i64 0,.int .i64 0,.int .i64 0,.slice none 0 0,.slice none 0 0] 39)) hg1)
   have HZ1:=hid (hg1.whole (Whole.made w 39 #[.int .i64 0,.string ⟨#[]⟩,.int .i64 0,.int .i64 0,.int .i64 0,.slice none 0 0,.slice none 0 0]))
   clear hg1
   go_wp2_with (fail)
   refine (HF.out w1 HG1.out).mono ?_
   rintro e w2 ⟨FA,fc,rfl,hsl,hg⟩
   have HSL:=hid hsl
   have HG:=hid (Grows.trans HG1.out hg)
   have HZ:=hid (hg.whole HZ1.out)
   clear hsl hg
   go_wp2_with (fail)
   refine (Jk FA bs.length fc bs w2 HSL.out (by have:=HFL.out;omega)).mono ?_
   rintro e w3 ⟨A2,n2,c2,rfl,ho2,hb2⟩
   have HG':=hid (Grows.trans HG.out hb2)
   have HZ':=hid (Grows.whole hb2 HZ.out)
   have HS2:=hid (Sl.owned ho2)
   clear HG HZ
   have HG:=HG'
   have HZ:=HZ'
   clear HG' HZ' ho2 hb2
   rw [HFE.out]
   go_wp2_with (fail)
   refine (Zku _ _ _ _ w3 HS2.out (by have:=HS2.out.len;have:=HFB.out;have:=HFL.out;omega)).mono ?_
   rintro e w4 ⟨LA,ln,lc,BA,bn,bc,rfl,hr,hb⟩
   have HR:=hid hr
   have HG4:=hid (Grows.trans HG.out hb)
   have HZ4:=hid (Grows.whole hb HZ.out)
   clear HG hr hb
   rw [HRO.out] at HR
   have HZ5:=hid ((Zb w4 (.cells #[.int .i64 ro.kind,.string ⟨ro.key.toArray⟩,.int .i64 ro.id,.int .i64 ro.no,.int .i64 ro.size,.slice LA ln lc,.slice BA bn bc] 39)).whole HZ4.out)
   have HG5:=hid (Grows.trans HG4.out (Zb w4 (.cells #[.int .i64 ro.kind,.string ⟨ro.key.toArray⟩,.int .i64 ro.id,.int .i64 ro.no,.int .i64 ro.size,.slice LA ln lc,.slice BA bn bc] 39)))
   have HM5:=hid (Whole.made w4 39 #[.int .i64 ro.kind,.string ⟨ro.key.toArray⟩,.int .i64 ro.id,.int .i64 ro.no,.int .i64 ro.size,.slice LA ln lc,.slice BA bn bc])
   have HR5:=hid (HR.out.grow (Zb w4 (.cells #[.int .i64 ro.kind,.string ⟨ro.key.toArray⟩,.int .i64 ro.id,.int .i64 ro.no,.int .i64 ro.size,.slice LA ln lc,.slice BA bn bc] 39)))
   rw [HSO.out,HRO.out]
   have zc0:=HZ5.out.cell 0
   have zf0:=HZ5.out.free 0
   have zc1:=HZ5.out.cell 1
   have zf1:=HZ5.out.free 1
   have zc2:=HZ5.out.cell 2
   have zf2:=HZ5.out.free 2
   have zc3:=HZ5.out.cell 3
   have zf3:=HZ5.out.free 3
   have zc4:=HZ5.out.cell 4
   have zf4:=HZ5.out.free 4
   have zc5:=HZ5.out.cell 5
   have zf5:=HZ5.out.free 5
   have zc6:=HZ5.out.cell 6
   have zf6:=HZ5.out.free 6
   simp only [Gt] at zc0 zc1 zc2 zc3 zc4 zc5 zc6
   have yc0:=HM5.out.cell 0
   have yc1:=HM5.out.cell 1
   have yc2:=HM5.out.cell 2
   have yc3:=HM5.out.cell 3
   have yc4:=HM5.out.cell 4
   have yc5:=HM5.out.cell 5
   have yc6:=HM5.out.cell 6
   simp only [Gt] at yc0 yc1 yc2 yc3 yc4 yc5 yc6
   go_wp2_with (fail)
   obtain ⟨W,hW,hwh,hwt⟩:=Y6 HZ5.out (.int .i64 0) (.string ⟨#[]⟩) (.int .i64 0) (.int .i64 0) (.int .i64 0) (.slice none 0 0) (.slice none 0 0)
   rw [hW]
   have hlt:=HZ.out.lt
   have hbW:=hwt.below (by have:=HZ5.out.lt;omega)
   clear hW
   refine bodyPost_ret (Zn rfl _ _ w.heap.size _ _ _ _ _ _ _ _ (.int .i64 22) rfl rfl hwh) rfl ?_
   exact ⟨none,0,0,none,0,0,rfl,RcOwn.nil W _ 0 [] 0 0 0,Below.trans HG5.out hbW⟩
 | true =>
   rw [if_pos rfl]
   go_enter Tryz.func91,Tryz.ntmps91
   go_wp2_with (fail)
   refine (HO.out _).mono ?_
   rintro e w1 ⟨rfl,hg1⟩
   have HG1:=hid (Grows.trans (Zb w (.cells #[.int .i64 0,.string ⟨#[]⟩,.int .i64 0,.int .i64 0,.int .i64 0,.slice none 0 0,.slice none 0 0] 39)) hg1)
   have HZ1:=hid (hg1.whole (Whole.made w 39 #[.int .i64 0,.string ⟨#[]⟩,.int .i64 0,.int .i64 0,.int .i64 0,.slice none 0 0,.slice none 0 0]))
   clear hg1
   go_wp2_with (fail)
   refine (HF.out w1 HG1.out).mono ?_
   rintro e w2 ⟨FA,fc,rfl,hsl,hg⟩
   have HSL:=hid hsl
   have HG:=hid (Grows.trans HG1.out hg)
   have HZ:=hid (hg.whole HZ1.out)
   clear hsl hg
   go_wp2_with (fail)
   refine (Jk FA bs.length fc bs w2 HSL.out (by have:=HFL.out;omega)).mono ?_
   rintro e w3 ⟨A2,n2,c2,rfl,ho2,hb2⟩
   have HG':=hid (Grows.trans HG.out hb2)
   have HZ':=hid (Grows.whole hb2 HZ.out)
   have HS2:=hid (Sl.owned ho2)
   clear HG HZ
   have HG:=HG'
   have HZ:=HZ'
   clear HG' HZ' ho2 hb2
   rw [HFE.out]
   go_wp2_with (fail)
   refine (Zku _ _ _ _ w3 HS2.out (by have:=HS2.out.len;have:=HFB.out;have:=HFL.out;omega)).mono ?_
   rintro e w4 ⟨LA,ln,lc,BA,bn,bc,rfl,hr,hb⟩
   have HR:=hid hr
   have HG4:=hid (Grows.trans HG.out hb)
   have HZ4:=hid (Grows.whole hb HZ.out)
   have HWS:=hid HG.out.size
   clear HG hr hb
   rw [HRO.out] at HR
   have HZ5:=hid ((Zb w4 (.cells #[.int .i64 ro.kind,.string ⟨ro.key.toArray⟩,.int .i64 ro.id,.int .i64 ro.no,.int .i64 ro.size,.slice LA ln lc,.slice BA bn bc] 39)).whole HZ4.out)
   have HG5:=hid (Grows.trans HG4.out (Zb w4 (.cells #[.int .i64 ro.kind,.string ⟨ro.key.toArray⟩,.int .i64 ro.id,.int .i64 ro.no,.int .i64 ro.size,.slice LA ln lc,.slice BA bn bc] 39)))
   have HM5:=hid (Whole.made w4 39 #[.int .i64 ro.kind,.string ⟨ro.key.toArray⟩,.int .i64 ro.id,.int .i64 ro.no,.int .i64 ro.size,.slice LA ln lc,.slice BA bn bc])
   have HR5:=hid (HR.out.grow (Zb w4 (.cells #[.int .i64 ro.kind,.string ⟨ro.key.toArray⟩,.int .i64 ro.id,.int .i64 ro.no,.int .i64 ro.size,.slice LA ln lc,.slice BA bn bc] 39)))
   rw [HSO.out,HRO.out]
   have zc0:=HZ5.out.cell 0
   have zf0:=HZ5.out.free 0
   have zc1:=HZ5.out.cell 1
   have zf1:=HZ5.out.free 1
   have zc2:=HZ5.out.cell 2
   have zf2:=HZ5.out.free 2
   have zc3:=HZ5.out.cell 3
   have zf3:=HZ5.out.free 3
   have zc4:=HZ5.out.cell 4
   have zf4:=HZ5.out.free 4
   have zc5:=HZ5.out.cell 5
   have zf5:=HZ5.out.free 5
   have zc6:=HZ5.out.cell 6
   have zf6:=HZ5.out.free 6
   simp only [Gt] at zc0 zc1 zc2 zc3 zc4 zc5 zc6
   have yc0:=HM5.out.cell 0
   have yc1:=HM5.out.cell 1
   have yc2:=HM5.out.cell 2
   have yc3:=HM5.out.cell 3
   have yc4:=HM5.out.cell 4
   have yc5:=HM5.out.cell 5
   have yc6:=HM5.out.cell 6
   simp only [Gt] at yc0 yc1 yc2 yc3 yc4 yc5 yc6
   go_wp2_with (fail)
   obtain ⟨W,hW,hwh,hwt⟩:=Y6 HZ5.out (.int .i64 ro.kind) (.string ⟨ro.key.toArray⟩) (.int .i64 ro.id) (.int .i64 ro.no) (.int .i64 ro.size) (.slice LA ln lc) (.slice BA bn bc)
   rw [hW]
   have hlt:=HZ.out.lt
   have hbW:=hwt.below (by have:=HZ5.out.lt;omega)
   clear hW
   refine bodyPost_ret (Zn rfl _ _ w.heap.size _ _ _ _ _ _ _ _ (.int .i64 0) rfl rfl hwh) rfl ?_
   exact ⟨LA,ln,lc,BA,bn,bc,rfl,(HR5.out.turn hwt hlt).from HWS.out,Below.trans HG5.out hbW⟩
end
end Go.Proofs.YtkelafkbmnjpeaaGreat
namespace Go.Proofs.YtkelafkbmnjpeaaGreat
open Go.RowKit Go.Maps Go.WideMaps
section
variable {K:Nat} {m:Dk}
theorem Zc4 (r:Rc):(frS r).length≤8200:=Zav
end
def recT:Rc:=⟨4,[97,98],0,0,0,[],[]⟩
namespace Hs
end Hs
end Go.Proofs.YtkelafkbmnjpeaaGreat
