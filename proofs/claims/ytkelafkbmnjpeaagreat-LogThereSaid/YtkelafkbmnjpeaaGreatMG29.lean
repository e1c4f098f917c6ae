/-
  Texts that the statements lean on, one behind the other.
-/
import Derived.Test.YtkelafkbmnjpeaaGreatMG28
import Derived.Test.YtkelafkbmnjpeaaGreatMG12
import Derived.Test.YtkelafkbmnjpeaaGreatMG16
import Derived.Test.YtkelafkbmnjpeaaGreatMG05
import Derived.LoopTactic
import Derived.Test.YtkelafkbmnjpeaaGreatMG11
import Derived.Test.YtkelafkbmnjpeaaGreatMG14
import Derived.Test.YtkelafkbmnjpeaaGreatMG19
import Derived.Test.YtkelafkbmnjpeaaGreatMG01
set_option linter.unusedSimpArgs false
set_option linter.unusedVariables false
set_option maxHeartbeats 4000000
set_option maxRecDepth 100000
namespace Go.Proofs.YtkelafkbmnjpeaaGreat
open Go.Lib (hid)
open Go.RowKit
attribute [local irreducible] wpF
theorem Zcp (a lo hi:Int) (w:World) :
 Calls Tryz.prog 230 #[.int .i64 a,.int .i64 lo,.int .i64 hi] w fun e w'=>e=.returned (.bool (decide (lo≤a)&&decide (a≤hi)))∧Grows w w':=by
 go_enter Tryz.func230,Tryz.ntmps230
 go_wp2
 all_goals
  go_ret
  refine ⟨Zm (by rw [Bool.eq_iff_iff];simp at *;omega),?_⟩
  first | exact Below.refl _ _ | exact Zb _ _
theorem Zhc (k:Int) (w:World) :
 Calls Tryz.prog 205 #[.int .i64 k] w fun e w'=>e=.returned (.bool (J5 k))∧Grows w w':=by
 go_enter Tryz.func205,Tryz.ntmps205
 go_wp2
 all_goals
  go_ret
  refine ⟨Zm (by unfold J5;rw [Bool.eq_iff_iff];simp at *;omega),?_⟩
  first | exact Below.refl _ _ | exact Zb _ _
theorem Zms (k:List UInt8) (w:World) :
 Calls Tryz.prog 206 #[.string ⟨k.toArray⟩] w fun e w'=>e=.returned (.bool (keyB k))∧Grows w w' :=
 (Zus ⟨k.toArray⟩ w).mono fun e w' h=>⟨h.1.trans (Zm (by unfold keyB;rw [Bool.eq_iff_iff];simp [ByteArray.size])),h.2⟩
theorem Zrc (h:Ht) (w:World):Calls Tryz.prog 232 #[htV h] w fun e w'=>e=.returned (.bool (Zbf h))∧Grows w w':=by
 obtain ⟨k,key,a,s⟩:=h
 show Calls _ _ #[.agg #[.int .i64 k,.string ⟨key.toArray⟩,.int .i64 a,.int .i64 s]] _ _
 have hm:=Whole.made w 167 #[.int .i64 k,.string ⟨key.toArray⟩,.int .i64 a,.int .i64 s]
 have hg:=Zb w (.cells #[.int .i64 k,.string ⟨key.toArray⟩,.int .i64 a,.int .i64 s] 167)
 obtain ⟨W1,hW1⟩:∃ y,w.alloc (.cells #[.int .i64 k,.string ⟨key.toArray⟩,.int .i64 a,.int .i64 s] 167)=y:=⟨_,rfl⟩
 rw [hW1] at hm hg
 have HG:=hid hg
 have HC:=hid (fun w' (hC:Grows W1 w')=>by
  have h1:=hC.whole hm
  exact (⟨h1.cell 0,h1.cell 1,h1.cell 2,h1.cell 3⟩:w'.cell? { block:=w.heap.size,off:=0 }=some (.int .i64 k)∧w'.cell? { block:=w.heap.size,off:=1 }=some (.string ⟨key.toArray⟩)∧w'.cell? { block:=w.heap.size,off:=2 }=some (.int .i64 a)∧w'.cell? { block:=w.heap.size,off:=3 }=some (.int .i64 s)))
 clear hm hg
 obtain ⟨b1,h1⟩:∃ b,J5 k=b:=⟨_,rfl⟩
 obtain ⟨b2,h2⟩:∃ b,keyB key=b:=⟨_,rfl⟩
 obtain ⟨b3,h3⟩:∃ b,(decide ((0:Int)≤a)&&decide (a≤1073741824))=b:=⟨_,rfl⟩
 obtain ⟨b4,h4⟩:∃ b,(decide ((9:Int)≤s)&&decide (s≤8200))=b:=⟨_,rfl⟩
 have HR:=hid (show Zbf ⟨k,key,a,s⟩=(b1&&b2&&b3&&b4) by unfold Zbf;dsimp only;rw [h1,h2,h3,h4])
 have H1:=hid (fun w'=>h1 ▸ Zhc k w')
 have H2:=hid (fun w'=>h2 ▸ Zms key w')
 have H3:=hid (fun w'=>h3 ▸ Zcp a 0 1073741824 w')
 have H4:=hid (fun w'=>h4 ▸ Zcp s 9 8200 w')
 clear h1 h2 h3 h4
 go_enter Tryz.func232,Tryz.ntmps232
 rcases b1 with _ | _
 ·replace HR:=hid (HR.out.trans (by simp:_=false))
  go_wp2_with (fail)
  clear hW1
  refine Zg (E:=Grows) [Za (.pointer (some ⟨w.heap.size,0,none⟩)),Za (.int .i64 k),Za (.bool false),Za (.bool false),Za undef,Za undef,Za undef,Za (.bool false),Za (.bool false),Za undef,Za undef,Za undef,Za (.bool false),Za (.bool false),Za undef,Za undef,Za undef,Za undef,Za undef,Za (.bool false),Za (.bool false)] (by kernel_rfl) (by kernel_rfl) (fun _ _ _=>Grows.trans) (Ze _) ?_
  refine f_val _ (by rfl) ?_ ?_
  ·intro w' hC;clear hC;go_simp
  simp only [Pu]
  refine f_val _ (by rfl) ?_ ?_
  ·intro w' hC;obtain ⟨z0,z1,z2,z3⟩:=HC.out w' hC;clear hC;go_simp
  simp only [Pu]
  refine Zv 205 #[.int .i64 k] (.bool false) (by rfl) (by intro w' hC;clear hC;go_simp) ?_ ?_
  ·intro w' hC hks;exact (H1.out w').mono fun e w'' hh=>⟨hh.1,hh.2⟩
  simp only [Pu]
  refine f_val _ (by rfl) ?_ ?_
  ·intro w' hC;clear hC;go_simp
  simp only [Pu]
  iterate 3
   refine Zbc (by rfl) ?_
   simp only [Pu]
  iterate 2
   refine f_val _ (by rfl) ?_ ?_
   ·intro w' hC;clear hC;go_simp
   simp only [Pu]
  iterate 3
   refine Zbc (by rfl) ?_
   simp only [Pu]
  iterate 2
   refine f_val _ (by rfl) ?_ ?_
   ·intro w' hC;clear hC;go_simp
   simp only [Pu]
  iterate 5
   refine Zbc (by rfl) ?_
   simp only [Pu]
  iterate 2
   refine f_val _ (by rfl) ?_ ?_
   ·intro w' hC;clear hC;go_simp
   simp only [Pu]
  refine Zs ?_
  intro w2 hC hks
  have HCw2:=hid hC
  clear hC hks
  go_wp2_with (fail)
  go_ret
  exact ⟨Zm (by rw [HR.out]),HG.out.trans HCw2.out⟩
 rcases b2 with _ | _
 ·replace HR:=hid (HR.out.trans (by simp:_=false))
  go_wp2_with (fail)
  clear hW1
  refine Zg (E:=Grows) [Za (.pointer (some ⟨w.heap.size,0,none⟩)),Za (.int .i64 k),Za (.bool true),Za (.bool true),Za (.pointer (some ⟨w.heap.size,1,none⟩)),Za (.string ⟨key.toArray⟩),Za (.bool false),Za (.bool false),Za (.bool false),Za undef,Za undef,Za undef,Za (.bool false),Za (.bool false),Za undef,Za undef,Za undef,Za undef,Za undef,Za (.bool false),Za (.bool false)] (by kernel_rfl) (by kernel_rfl) (fun _ _ _=>Grows.trans) (Ze _) ?_
  refine f_val _ (by rfl) ?_ ?_
  ·intro w' hC;clear hC;go_simp
  simp only [Pu]
  refine f_val _ (by rfl) ?_ ?_
  ·intro w' hC;obtain ⟨z0,z1,z2,z3⟩:=HC.out w' hC;clear hC;go_simp
  simp only [Pu]
  refine Zv 205 #[.int .i64 k] (.bool true) (by rfl) (by intro w' hC;clear hC;go_simp) ?_ ?_
  ·intro w' hC hks;exact (H1.out w').mono fun e w'' hh=>⟨hh.1,hh.2⟩
  simp only [Pu]
  iterate 2
   refine f_val _ (by rfl) ?_ ?_
   ·intro w' hC;clear hC;go_simp
   simp only [Pu]
  refine f_val _ (by rfl) ?_ ?_
  ·intro w' hC;obtain ⟨z0,z1,z2,z3⟩:=HC.out w' hC;clear hC;go_simp
  simp only [Pu]
  refine Zv 206 #[.string ⟨key.toArray⟩] (.bool false) (by rfl) (by intro w' hC;clear hC;go_simp) ?_ ?_
  ·intro w' hC hks;exact (H2.out w').mono fun e w'' hh=>⟨hh.1,hh.2⟩
  simp only [Pu]
  iterate 2
   refine f_val _ (by rfl) ?_ ?_
   ·intro w' hC;clear hC;go_simp
   simp only [Pu]
  iterate 3
   refine Zbc (by rfl) ?_
   simp only [Pu]
  iterate 2
   refine f_val _ (by rfl) ?_ ?_
   ·intro w' hC;clear hC;go_simp
   simp only [Pu]
  iterate 5
   refine Zbc (by rfl) ?_
   simp only [Pu]
  iterate 2
   refine f_val _ (by rfl) ?_ ?_
   ·intro w' hC;clear hC;go_simp
   simp only [Pu]
  refine Zs ?_
  intro w2 hC hks
  have HCw2:=hid hC
  clear hC hks
  go_wp2_with (fail)
  go_ret
  exact ⟨Zm (by rw [HR.out]),HG.out.trans HCw2.out⟩
 rcases b3 with _ | _
 ·replace HR:=hid (HR.out.trans (by simp:_=false))
  go_wp2_with (fail)
  clear hW1
  refine Zg (E:=Grows) [Za (.pointer (some ⟨w.heap.size,0,none⟩)),Za (.int .i64 k),Za (.bool true),Za (.bool true),Za (.pointer (some ⟨w.heap.size,1,none⟩)),Za (.string ⟨key.toArray⟩),Za (.bool true),Za (.bool true),Za (.bool true),Za (.pointer (some ⟨w.heap.size,2,none⟩)),Za (.int .i64 a),Za (.bool false),Za (.bool false),Za (.bool false),Za undef,Za undef,Za undef,Za undef,Za undef,Za (.bool false),Za (.bool false)] (by kernel_rfl) (by kernel_rfl) (fun _ _ _=>Grows.trans) (Ze _) ?_
  refine f_val _ (by rfl) ?_ ?_
  ·intro w' hC;clear hC;go_simp
  simp only [Pu]
  refine f_val _ (by rfl) ?_ ?_
  ·intro w' hC;obtain ⟨z0,z1,z2,z3⟩:=HC.out w' hC;clear hC;go_simp
  simp only [Pu]
  refine Zv 205 #[.int .i64 k] (.bool true) (by rfl) (by intro w' hC;clear hC;go_simp) ?_ ?_
  ·intro w' hC hks;exact (H1.out w').mono fun e w'' hh=>⟨hh.1,hh.2⟩
  simp only [Pu]
  iterate 2
   refine f_val _ (by rfl) ?_ ?_
   ·intro w' hC;clear hC;go_simp
   simp only [Pu]
  refine f_val _ (by rfl) ?_ ?_
  ·intro w' hC;obtain ⟨z0,z1,z2,z3⟩:=HC.out w' hC;clear hC;go_simp
  simp only [Pu]
  refine Zv 206 #[.string ⟨key.toArray⟩] (.bool true) (by rfl) (by intro w' hC;clear hC;go_simp) ?_ ?_
  ·intro w' hC hks;exact (H2.out w').mono fun e w'' hh=>⟨hh.1,hh.2⟩
  simp only [Pu]
  iterate 3
   refine f_val _ (by rfl) ?_ ?_
   ·intro w' hC;clear hC;go_simp
   simp only [Pu]
  refine f_val _ (by rfl) ?_ ?_
  ·intro w' hC;obtain ⟨z0,z1,z2,z3⟩:=HC.out w' hC;clear hC;go_simp
  simp only [Pu]
  refine Zv 230 #[.int .i64 a,.int .i64 0,.int .i64 1073741824] (.bool false) (by rfl) (by intro w' hC;clear hC;go_simp) ?_ ?_
  ·intro w' hC hks;exact (H3.out w').mono fun e w'' hh=>⟨hh.1,hh.2⟩
  simp only [Pu]
  iterate 2
   refine f_val _ (by rfl) ?_ ?_
   ·intro w' hC;clear hC;go_simp
   simp only [Pu]
  iterate 5
   refine Zbc (by rfl) ?_
   simp only [Pu]
  iterate 2
   refine f_val _ (by rfl) ?_ ?_
   ·intro w' hC;clear hC;go_simp
   simp only [Pu]
  refine Zs ?_
  intro w2 hC hks
  have HCw2:=hid hC
  clear hC hks
  go_wp2_with (fail)
  go_ret
  exact ⟨Zm (by rw [HR.out]),HG.out.trans HCw2.out⟩
 ·replace HR:=hid (HR.out.trans (by simp:_=b4))
  go_wp2_with (fail)
  clear hW1
  refine Zg (E:=Grows) [Za (.pointer (some ⟨w.heap.size,0,none⟩)),Za (.int .i64 k),Za (.bool true),Za (.bool true),Za (.pointer (some ⟨w.heap.size,1,none⟩)),Za (.string ⟨key.toArray⟩),Za (.bool true),Za (.bool true),Za (.bool true),Za (.pointer (some ⟨w.heap.size,2,none⟩)),Za (.int .i64 a),Za (.bool true),Za (.bool true),Za (.bool true),Za (.pointer (some ⟨w.heap.size,3,none⟩)),Za (.int .i64 s),Za (.int .i64 9),Za (.int .i64 8200),Za (.bool b4),Za (.bool b4),Za (.bool b4)] (by kernel_rfl) (by kernel_rfl) (fun _ _ _=>Grows.trans) (Ze _) ?_
  refine f_val _ (by rfl) ?_ ?_
  ·intro w' hC;clear hC;go_simp
  simp only [Pu]
  refine f_val _ (by rfl) ?_ ?_
  ·intro w' hC;obtain ⟨z0,z1,z2,z3⟩:=HC.out w' hC;clear hC;go_simp
  simp only [Pu]
  refine Zv 205 #[.int .i64 k] (.bool true) (by rfl) (by intro w' hC;clear hC;go_simp) ?_ ?_
  ·intro w' hC hks;exact (H1.out w').mono fun e w'' hh=>⟨hh.1,hh.2⟩
  simp only [Pu]
  iterate 2
   refine f_val _ (by rfl) ?_ ?_
   ·intro w' hC;clear hC;go_simp
   simp only [Pu]
  refine f_val _ (by rfl) ?_ ?_
  ·intro w' hC;obtain ⟨z0,z1,z2,z3⟩:=HC.out w' hC;clear hC;go_simp
  simp only [Pu]
  refine Zv 206 #[.string ⟨key.toArray⟩] (.bool true) (by rfl) (by intro w' hC;clear hC;go_simp) ?_ ?_
  ·intro w' hC hks;exact (H2.out w').mono fun e w'' hh=>⟨hh.1,hh.2⟩
  simp only [Pu]
  iterate 3
   refine f_val _ (by rfl) ?_ ?_
   ·intro w' hC;clear hC;go_simp
   simp only [Pu]
  refine f_val _ (by rfl) ?_ ?_
  ·intro w' hC;obtain ⟨z0,z1,z2,z3⟩:=HC.out w' hC;clear hC;go_simp
  simp only [Pu]
  refine Zv 230 #[.int .i64 a,.int .i64 0,.int .i64 1073741824] (.bool true) (by rfl) (by intro w' hC;clear hC;go_simp) ?_ ?_
  ·intro w' hC hks;exact (H3.out w').mono fun e w'' hh=>⟨hh.1,hh.2⟩
  simp only [Pu]
  iterate 3
   refine f_val _ (by rfl) ?_ ?_
   ·intro w' hC;clear hC;go_simp
   simp only [Pu]
  refine f_val _ (by rfl) ?_ ?_
  ·intro w' hC;obtain ⟨z0,z1,z2,z3⟩:=HC.out w' hC;clear hC;go_simp
  simp only [Pu]
  refine Zv 86 #[.int .i64 1] (.int .i64 9) (by rfl) (by intro w' hC;clear hC;go_simp) ?_ ?_
  ·intro w' hC hks;exact (Yo 1 w' (by omega) (by omega)).mono fun e w'' hh=>⟨hh.1,hh.2 ▸ Below.refl _ _⟩
  simp only [Pu]
  refine Zv 86 #[.int .i64 8192] (.int .i64 8200) (by rfl) (by intro w' hC;clear hC;go_simp) ?_ ?_
  ·intro w' hC hks;exact (Yo 8192 w' (by omega) (by omega)).mono fun e w'' hh=>⟨hh.1,hh.2 ▸ Below.refl _ _⟩
  simp only [Pu]
  refine Zv 230 #[.int .i64 s,.int .i64 9,.int .i64 8200] (.bool b4) (by rfl) (by intro w' hC;clear hC;go_simp) ?_ ?_
  ·intro w' hC hks;exact (H4.out w').mono fun e w'' hh=>⟨hh.1,hh.2⟩
  simp only [Pu]
  iterate 2
   refine f_val _ (by rfl) ?_ ?_
   ·intro w' hC;clear hC;go_simp
   simp only [Pu]
  refine Zs ?_
  intro w2 hC hks
  have HCw2:=hid hC
  clear hC hks
  go_wp2_with (fail)
  go_ret
  exact ⟨Zm (by rw [HR.out]),HG.out.trans HCw2.out⟩
theorem Zhd (A:Option Addr) (n c:Nat) (l:List Ht) (w:World) (h:Hts w A n c l) (hn:n≤4611686018427387904) :
 Calls Tryz.prog 154 #[.slice A n c] w fun e w'=>e=.returned (.bool (Zai l))∧Grows w w':=by
 have HX:=hid h
 have hlen:=h.len
 clear h
 go_enter Tryz.func154,Tryz.ntmps154
 go_wp2_with (fail)
 go_loopw [3,8] (fun p i wr=>∃ (j:Nat) (d:List UInt8),j≤n∧i=.int .i64 (j:Nat)∧p=.string ⟨d.toArray⟩∧Hid (rightF [] (l.take j)=true∧lastK [] (l.take j)=d)∧Hid (Grows w wr)) (fun _ i _=>n - (intOf i).toNat)
 case atStart=>exact ⟨0,[],by omega,rfl,rfl,hid ⟨rfl,rfl⟩,hid (Below.refl _ _)⟩
 case round =>
  obtain ⟨j,d,hj,rfl,rfl,HJ,HG⟩:=hrel
  by_cases hlt:j < n
  ·obtain ⟨ad,x,rfl,hx,hb,hc⟩:=HX.out.at hlt
   have k0:(0:Int)≤(j:Int):=by omega
   have k1:(j:Int) < (n:Int):=by omega
   obtain ⟨c0,c1,c2,c3⟩:=hc _ HG.out
   have htk:l.take (j+1)=l.take j++[x]:=by rw [List.take_add_one,hx];rfl
   have HNX:=hid (show rightF [] (l.take (j+1))=(Zbf x&&bytesBefore d x.key)∧lastK [] (l.take (j+1))=x.key by
    rw [htk,rightF_append,HJ.out.1,HJ.out.2,lastK_snoc]
    simp [rightF])
   have HAL:=hid (fun w'=>Zrc x w')
   have HFAIL:=hid (show rightF [] (l.take (j+1))=false→Zai l=false from fun hf=>by
    unfold Zai
    rw [←List.take_append_drop (j+1) l,rightF_append,hf,Bool.false_and])
   obtain ⟨al,hal⟩:∃ b,Zbf x=b:=⟨_,rfl⟩
   obtain ⟨bf,hbf⟩:∃ b,bytesBefore d x.key=b:=⟨_,rfl⟩
   rw [hal] at HAL
   rw [hal,hbf] at HNX
   have hm:=Whole.made wr 167 #[.int .i64 x.kind,.string ⟨x.key.toArray⟩,.int .i64 x.at_,.int .i64 x.size]
   have hg1:=Zb wr (.cells #[.int .i64 x.kind,.string ⟨x.key.toArray⟩,.int .i64 x.at_,.int .i64 x.size] 167)
   obtain ⟨W1,hW1⟩:∃ y,wr.alloc (.cells #[.int .i64 x.kind,.string ⟨x.key.toArray⟩,.int .i64 x.at_,.int .i64 x.size] 167)=y:=⟨_,rfl⟩
   rw [hW1] at hm hg1
   have m0:=hm.cell 0
   have m1:=hm.cell 1
   have m2:=hm.cell 2
   have m3:=hm.cell 3
   simp only [Gt] at m0 m1 m2 m3
   have HM:=hid (And.intro hm (HG.out.trans hg1))
   have HBF:=hid hbf
   clear hc hx hb htk hm hg1 hal hbf
   go_wp2_with (fail)
   refine (HAL.out W1).mono ?_
   rintro e w2 ⟨rfl,hg2⟩
   have hm2:=hg2.whole HM.out.1
   have p0:=hm2.cell 0
   have p1:=hm2.cell 1
   simp only [Gt] at p0 p1
   have HG2:=hid (HM.out.2.trans hg2)
   clear hm2 hg2 hW1 m0 m1 m2 m3
   cases al
   ·go_wp2_with (fail)
    go_ret
    exact ⟨Zm (HFAIL.out (by rw [HNX.out.1];rfl)).symm,HG2.out⟩
   go_wp2_with (fail)
   ·rename_i hno
    go_ret
    exact ⟨Zm (HFAIL.out (by rw [HNX.out.1,←HBF.out,Zqf hno];rfl)).symm,HG2.out⟩
   ·rename_i hyes
    have HY:=hid (Zs1 hyes)
    go_roundw
    case rel=>exact ⟨j+1,x.key,by omega,by go_num,rfl,hid ⟨by rw [HNX.out.1,←HBF.out,HY.out];rfl,HNX.out.2⟩,HG2⟩
    case measure=>simp [intOf];omega
  ·obtain rfl:j=n:=by omega
   have HE:=hid (show Zai l=true by
    have:=HJ.out.1
    rw [List.take_of_length_le (by omega)] at this
    exact this)
   go_wp2_with (fail)
   go_ret
   exact ⟨Zm HE.out.symm,HG.out⟩
end Go.Proofs.YtkelafkbmnjpeaaGreat
set_option maxHeartbeats 4000000
set_option maxRecDepth 100000
namespace Go.Proofs.YtkelafkbmnjpeaaGreat
open Go.Lib (hid)
open Go.RowKit
theorem Zbb (A:Option Addr) (m c:Nat) (bs:List UInt8) (w:World) (h:Sl w A m c bs) (hm:m≤6) :
 Calls Tryz.prog 283 #[.slice A m c] w fun e w'=>e=.returned (.int .i64 (valB bs))∧w=w':=by
 have hlen:=Bytes.len h.bytes
 have HL:=hid h
 clear h
 go_enter Tryz.func283,Tryz.ntmps283
 go_wp2_with (fail)
 go_loop [3,8] (fun n i=>∃ j:Nat,j≤m∧i=.int .i64 (j:Nat)∧n=.int .i64 (valB (bs.take j))) (fun _ i=>m - (intOf i).toNat)
 case atStart=>exact ⟨0,by omega,rfl,rfl⟩
 case round =>
  obtain ⟨j,hj,rfl,rfl⟩:=hrel
  by_cases hlt:j < m
  ·obtain ⟨ad,rfl,_,hc⟩:=HL.out.bytes.spot hlt
   have hnx:=Ze6 bs j (by omega)
   have hsm:=Y7 (bs.take j) (by rw [List.length_take];omega)
   have hsm2:=Y7 (bs.take (j+1)) (by rw [List.length_take];omega)
   have hb:=(bs.getD j 0).toNat_lt
   generalize bs.getD j 0=b at *
   generalize valB (bs.take j)=v at *
   have HX:=hid hnx
   have k0:(0:Int)≤(j:Int):=by omega
   have k1:(j:Int) < (m:Int):=by omega
   clear hnx
   go_wp2_with (fail)
   go_round
   case rel=>exact ⟨j+1,by omega,by go_num,by rw [HX.out,Zkt v _ (by omega) (by have:=hsm2;rw [HX.out] at this;omega) hb];congr 1;omega⟩
   case measure=>simp [intOf];omega
  ·obtain rfl:j=m:=by omega
   have e1:bs.take j=bs:=List.take_of_length_le (by omega)
   rw [e1]
   go_wp2_with (fail)
   go_ret
   exact ⟨rfl,rfl⟩
theorem Y9 (base:Nat) (A0:Option Addr) (n0 c0:Nat) (xs:List UInt8) (x:Int) (k:Nat) (w:World) (ho:w.ownsRow base 5 1 (.slice A0 n0 c0) n0 (xs.map byteV)) (hb:base≤w.heap.size) (hn:n0≤1000000) (hk:k≤8) :
 Calls Tryz.prog 233 #[.slice A0 n0 c0,.int .i64 x,.int .i64 (k:Int)] w fun e w'=>∃ A' c',e=.returned (.slice A' (n0+k) c')∧w'.ownsRow base 5 1 (.slice A' (n0+k) c') (n0+k) ((xs++numB x k).map byteV)∧Below base w w'∧Stay w w':=by
 have HO:=hid ho
 clear ho
 have hk1:IntKind.i64.wrap ((k:Int) - 1)=(k:Int) - 1:=IntWalk.i64_in _ ⟨by omega,by omega⟩
 go_enter Tryz.func233,Tryz.ntmps233
 go_wp2_with (fail)
 go_loopw [0,7] (fun m i wr=>∃ (A:Option Addr) (c j n:Nat),j≤k∧i=.int .i64 ((k:Int) - 1 - (j:Int))∧m=.slice A n c∧Hid (n=n0+j)∧Hid (wr.ownsRow base 5 1 (.slice A n c) n ((xs++(numB x k).take j).map byteV))∧Hid (Below base w wr∧Stay w wr)) (fun _ i _=>(intOf i+1).toNat)
 case atStart=>exact ⟨A0,c0,0,n0,by omega,by simp,rfl,hid rfl,hid (by simpa using HO.out),hid ⟨Below.refl _ _,Stay.refl _⟩⟩
 case round =>
  obtain ⟨A,c,j,n,hj,rfl,rfl,HN,HR,HB⟩:=hrel
  by_cases hlt:j < k
  ·obtain ⟨i,hi⟩:∃ i:Nat,k=j+1+i:=⟨k - (j+1),by omega⟩
   have e1:(k:Int) - 1 - (j:Int)=(i:Int):=by omega
   have e2:IntKind.i64.wrap (8*(i:Int))=8*(i:Int):=IntWalk.i64_in _ ⟨by omega,by omega⟩
   have e3:wrap64 (8*(i:Int))=8*(i:Int):=by rw [←IntWalk.i64_left];exact e2
   have e4:IntKind.i64.wrap ((i:Int) - 1)=(i:Int) - 1:=IntWalk.i64_in _ ⟨by omega,by omega⟩
   rw [e1]
   have h0:(0:Int)≤(i:Int):=by omega
   have h7:i≤7:=by omega
   have hby:x / 2 ^ (8*i) % 256=((byteI (x / 256 ^ i)).toNat:Int):=by
    rw [Yn,show (2:Int) ^ (8*i)=256 ^ i by rw [Int.pow_mul];rfl]
   have hnx:=Zfe x k j i hi
   generalize byteI (x / 256 ^ i)=b at *
   have HX:=hid hnx
   have HI:=hid hi
   have hm:=Whole.made wr 5 #[.int .u8 (b.toNat:Int)]
   have HM:=hid (Whole.sl hm [b] rfl (n:=1) rfl)
   have HG:=hid (Zd HR.out (Zb wr (.cells #[.int .u8 (b.toNat:Int)] 5)))
   clear hnx hm hi e1
   go_wp2_with (at_builtin
                refine Za4 isSl_bytes isSl_bytes rfl (.tmp 14) (.tmp 20) rfl (base:=base) rfl HG.out (A:=some ⟨wr.heap.size,0,none⟩) (m:=1) (c:=1) rfl HM.out (n+1) rfl (by have:=HN.out;omega) (by have:=HB.out.1.size;simp;omega) ?_
                intro A2 c2 w2 ho2 hb2 hs2
                have HO2:=hid ho2
                have HB2:=hid (And.intro (Below.trans (HB.out.1.alloc (Nat.le_trans hb HB.out.1.size) _) hb2) (Stay.trans HB.out.2 (Stay.trans (Stay.grow (Zb _ _)) hs2)))
                clear ho2 hb2 hs2)
   go_roundw
   case rel=>exact ⟨A2,c2,j+1,n+1,by omega,by (have:=HI.out;congr 1;omega),rfl,hid (by have:=HN.out;omega),hid (by rw [HX.out,←List.append_assoc];exact HO2.out),HB2⟩
   case measure=>(simp [intOf] <;> omega)
  ·obtain rfl:j=k:=by omega
   have e1:(j:Int) - 1 - (j:Int)=-1:=by omega
   rw [e1]
   have HR':=HR.out
   rw [List.take_of_length_le (by rw [Z1];omega),HN.out] at HR'
   have hN:=HN.out
   subst hN
   have HF:=hid HR'
   clear HR'
   go_wp2_with (fail)
   go_ret
   exact ⟨A,c,rfl,by simpa using HF.out,HB.out⟩
end Go.Proofs.YtkelafkbmnjpeaaGreat
set_option maxHeartbeats 4000000
set_option maxRecDepth 100000
namespace Go.Proofs.YtkelafkbmnjpeaaGreat
open Go.Lib (hid)
open Go.RowKit
attribute [local irreducible] wpF
theorem Zrb (h:Ht) (w:World) (hk:h.key.length≤100):Calls Tryz.prog 204 #[htV h] w fun e w'=>∃ A c,e=.returned (.slice A (7+h.key.length) c) ∧
 w'.ownsRow w.heap.size 5 1 (.slice A (7+h.key.length) c) (7+h.key.length) ((bodyH h).map byteV)∧Grows w w':=by
 obtain ⟨k,key,a,s⟩:=h
 show Calls _ _ #[.agg #[.int .i64 k,.string ⟨key.toArray⟩,.int .i64 a,.int .i64 s]] _ _
 replace hk:key.length≤100:=hk
 have hm:=Whole.made w 167 #[.int .i64 k,.string ⟨key.toArray⟩,.int .i64 a,.int .i64 s]
 have hg:=Zb w (.cells #[.int .i64 k,.string ⟨key.toArray⟩,.int .i64 a,.int .i64 s] 167)
 obtain ⟨W1,hW1⟩:∃ y,w.alloc (.cells #[.int .i64 k,.string ⟨key.toArray⟩,.int .i64 a,.int .i64 s] 167)=y:=⟨_,rfl⟩
 rw [hW1] at hm hg
 have HG:=hid hg
 have HC:=hid (fun w' (hC:Grows W1 w')=>by
  have h1:=hC.whole hm
  exact (⟨h1.cell 0,h1.cell 1,h1.cell 2,h1.cell 3⟩:w'.cell? { block:=w.heap.size,off:=0 }=some (.int .i64 k)∧w'.cell? { block:=w.heap.size,off:=1 }=some (.string ⟨key.toArray⟩)∧w'.cell? { block:=w.heap.size,off:=2 }=some (.int .i64 a)∧w'.cell? { block:=w.heap.size,off:=3 }=some (.int .i64 s)))
 clear hm hg
 obtain ⟨z0,z1,z2,z3⟩:=HC.out W1 (Below.refl _ _)
 go_enter Tryz.func204,Tryz.ntmps204
 go_wp2_with (fail)
 clear hW1
 refine (Y9 W1.heap.size none 0 0 [] k 1 W1 (World.ownsRow_nil _ _ _ _) (Nat.le_refl _) (by omega) (by omega)).mono ?_
 rintro e w2 ⟨A2,c2,rfl,ho2,hb2,_⟩
 clear z0 z1 z2 z3
 obtain ⟨z0,z1,z2,z3⟩:=HC.out w2 hb2
 have H2:=hid (And.intro ho2 hb2)
 clear ho2 hb2
 go_wp2_with (fail)
 refine (Y9 W1.heap.size A2 (0+1) c2 _ a 4 w2 H2.out.1 H2.out.2.size (by omega) (by omega)).mono ?_
 rintro e w3 ⟨A3,c3,rfl,ho3,hb3,_⟩
 clear z0 z1 z2 z3
 obtain ⟨z0,z1,z2,z3⟩:=HC.out w3 (H2.out.2.trans hb3)
 have H3:=hid (And.intro ho3 (H2.out.2.trans hb3))
 clear ho3 hb3 H2
 go_wp2_with (fail)
 refine (Y9 W1.heap.size A3 (0+1+4) c3 _ s 2 w3 H3.out.1 H3.out.2.size (by omega) (by omega)).mono ?_
 rintro e w4 ⟨A4,c4,rfl,ho4,hb4,_⟩
 clear z0 z1 z2 z3
 obtain ⟨z0,z1,z2,z3⟩:=HC.out w4 (H3.out.2.trans hb4)
 have H4:=hid (And.intro ho4 (H3.out.2.trans hb4))
 clear ho4 hb4 H3
 obtain ⟨k7,hk7⟩:∃ k7,7+key.length=k7:=⟨_,rfl⟩
 have HK:=hid hk7
 clear hk7
 go_wp2_with (first
  | (at_builtin
     refine Zbu isSl_bytes rfl (.tmp 15) (.tmp 17) rfl (base:=W1.heap.size) rfl H4.out.1 rfl k7 HK.out (by have:=HK.out;omega) H4.out.2.size ?_
     intro A5 c5 w5 ho5 hb5 hs5
     have H5:=hid (And.intro ho5 (H4.out.2.trans hb5))
     clear ho5 hb5 hs5)
  | fail)
 go_ret
 refine ⟨A5,c5,?_,?_,HG.out.trans H5.out.2⟩
 ·rw [HK.out];rfl
 ·rw [HK.out]
  exact Zh (show _ from by simpa [bodyH] using H5.out.1) HG.out.size
theorem Zcj (s:Int) (w:World) :
 Calls Tryz.prog 152 #[.int .i64 s] w fun e w'=>e=.returned (.bool (okS s))∧Grows w w':=by
 go_enter Tryz.func152,Tryz.ntmps152
 go_wp2_with (fail)
 refine (Zcp s 0 1073741824 w).mono ?_
 rintro e w' ⟨rfl,hg⟩
 have HG:=hid hg
 clear hg
 go_wp2_with (fail)
 go_ret
 exact ⟨rfl,HG.out⟩
theorem Zj6 (cnt size:Int) (A:Option Addr) (n c:Nat) (bs:List UInt8) (w:World) (hs:Sl w A n c bs) (hn:n≤maxLen):Calls Tryz.prog 156 #[.int .i64 cnt,.int .i64 size,.slice A n c] w fun e w'=>∃ A' c',e=.returned (.slice A' 13 c') ∧
 w'.ownsRow w.heap.size 5 1 (.slice A' 13 c') 13 ((lastB cnt size bs).map byteV)∧Grows w w':=by
 have HS:=hid hs
 have hm:=Whole.made w 5 #[.int .u8 7]
 have hg:=Zb w (.cells #[.int .u8 7] 5)
 obtain ⟨W1,hW1⟩:∃ y,w.alloc (.cells #[.int .u8 7] 5)=y:=⟨_,rfl⟩
 rw [hW1] at hm hg
 have ho1:W1.ownsRow w.heap.size 5 1 (.slice (some ⟨w.heap.size,0,none⟩) 1 1) 1 (([7]:List UInt8).map byteV):=⟨rfl,.inr ⟨w.heap.size,1,#[.int .u8 7],rfl,Nat.le_refl _,hm,Nat.le_refl _,by unfold maxLen;omega,rfl,rfl⟩⟩
 have H1:=hid (And.intro ho1 hg)
 clear hm hg ho1 hs
 go_enter Tryz.func156,Tryz.ntmps156
 go_wp2_with (fail)
 clear hW1
 refine (Y9 w.heap.size _ 1 1 [7] cnt 4 W1 H1.out.1 H1.out.2.size (by omega) (by omega)).mono ?_
 rintro e w2 ⟨A2,c2,rfl,ho2,hb2,_⟩
 have H2:=hid (And.intro ho2 (Below.trans (show Below w.heap.size w W1 from H1.out.2) hb2))
 clear ho2 hb2
 go_wp2_with (fail)
 refine (Y9 w.heap.size A2 (1+4) c2 _ size 4 w2 H2.out.1 H2.out.2.size (by omega) (by omega)).mono ?_
 rintro e w3 ⟨A3,c3,rfl,ho3,hb3,_⟩
 have H3:=hid (And.intro ho3 (Below.trans H2.out.2 hb3))
 clear ho3 hb3 H2 H1
 obtain ⟨N,hN⟩:∃ N,onN tabN 0 bs=N:=⟨_,rfl⟩
 have hlt:N < 4294967296:=hN ▸ Zty tabN 0 bs
 have kw:IntKind.i64.wrap (N:Int)=(N:Int):=IntWalk.i64_in _ ⟨by omega,by omega⟩
 have HN:=hid hN
 clear hN hlt
 go_wp2_with (fail)
 refine (Zjw w3).mono ?_
 rintro e w4 ⟨rfl,hb4⟩
 have hb4:Grows w3 w4:=hb4
 have H4:=hid (And.intro (Zd H3.out.1 hb4) (Below.trans H3.out.2 (hb4.mono H3.out.2.size)))
 clear hb4 H3
 go_wp2_with (fail)
 refine (Zt3 tabN tabN_all A n c bs w4 ((HS.out.grow H4.out.2).bytes) hn).mono ?_
 rw [HN.out]
 rintro e w5 ⟨rfl,hb5⟩
 have hb5:Grows w4 w5:=hb5
 have H5:=hid (And.intro (Zd H4.out.1 hb5) (Below.trans H4.out.2 (hb5.mono H4.out.2.size)))
 clear hb5 H4
 go_wp2_with (fail)
 refine (Y9 w.heap.size A3 (1+4+4) c3 _ N 4 w5 H5.out.1 H5.out.2.size (by omega) (by omega)).mono ?_
 rintro e w6 ⟨A6,c6,rfl,ho6,hb6,_⟩
 have H6:=hid (And.intro ho6 (Below.trans H5.out.2 hb6))
 clear ho6 hb6 H5
 go_wp2_with (fail)
 go_ret
 refine ⟨A6,c6,rfl,?_,H6.out.2⟩
 have:=H6.out.1
 unfold lastB
 rw [HN.out]
 exact this
theorem Zj7 {q:Nat}:∀ (l:List Ht),(∀ h∈l,15+h.key.length≤q)→(l.map fun h=>15+h.key.length).sum≤q*l.length
 | [],_=>Nat.zero_le _
 | h :: l,hh=>by
   have h1:=Zj7 l fun x hx=>hh x (List.mem_cons_of_mem _ hx)
   have h2:=hh h List.mem_cons_self
   rw [List.map_cons,List.sum_cons,List.length_cons,Nat.mul_add]
   omega
theorem Zhb {l:List Ht} (ha:∀ h∈l,Zbf h=true):(rowsH l).length≤79*l.length:=by
 rw [rowsH_length ha]
 exact Zj7 _ fun y hy=>by have:=Zdv (ha y hy);omega
theorem Ztl (A:Option Addr) (n c:Nat) (l:List Ht) (size:Int) (w:World) (h:Hts w A n c l) (hn:n≤1000000000000) (hsz:-9223372036854775808≤size∧size≤9223372036854775807) :
 Calls Tryz.prog 136 #[.slice A n c,.int .i64 size] w fun e w'=>∃ A' m c',e=.returned (.slice A' m c')∧m=(putH l size).length ∧
  w'.ownsRow w.heap.size 5 1 (.slice A' m c') m ((putH l size).map byteV)∧Grows w w':=by
 have HX:=hid h
 have hlen:=h.len
 have HR:=hid (Zhd A n c l w h (by omega))
 obtain ⟨r,hr⟩:∃ r,Zai l=r:=⟨_,rfl⟩
 obtain ⟨o,ho⟩:∃ o,okS size=o:=⟨_,rfl⟩
 have HS:=hid (fun w'=>show Calls Tryz.prog 152 #[.int .i64 size] w' fun e w''=>e=.returned (.bool o)∧Grows w' w'' from ho ▸ Zcj size w')
 rw [hr] at HR
 have HRO:=hid (And.intro hr ho)
 clear hr ho h
 go_enter Tryz.func136,Tryz.ntmps136
 go_wp2_with (fail)
 refine HR.out.mono ?_
 rintro e w1 ⟨rfl,hg1⟩
 have HG1:=hid hg1
 clear hg1
 cases r
 ·go_wp2_with (fail)
  go_ret
  refine ⟨none,0,0,rfl,?_,?_,HG1.out⟩
  ·rw [Zdd (.inl HRO.out.1)];rfl
  ·rw [Zdd (.inl HRO.out.1)];exact World.ownsRow_nil _ _ _ _
 go_wp2_with (fail)
 refine (HS.out w1).mono ?_
 rintro e w2 ⟨rfl,hg2⟩
 have HG2:=hid (HG1.out.trans hg2)
 clear hg2
 cases o
 ·go_wp2_with (fail)
  go_ret
  refine ⟨none,0,0,rfl,?_,?_,HG2.out⟩
  ·rw [Zdd (.inr HRO.out.2)];rfl
  ·rw [Zdd (.inr HRO.out.2)];exact World.ownsRow_nil _ _ _ _
 have HAL:=hid (rightF_all HRO.out.1)
 have HLE:=hid hlen
 clear hlen
 go_wp2_with (fail)
 go_loopw [5,18] (fun b i wr=>∃ (j:Nat) (B:Option Addr) (m cb:Nat),j≤n∧i=.int .i64 (j:Nat)∧b=.slice B m cb∧Hid (m=(rowsH (l.take j)).length)∧Hid (wr.ownsRow w.heap.size 5 1 (.slice B m cb) m ((rowsH (l.take j)).map byteV))∧Hid (Below w.heap.size w wr)) (fun _ i _=>n - (intOf i).toNat)
 case atStart=>exact ⟨0,none,0,0,by omega,rfl,rfl,hid rfl,hid (World.ownsRow_nil _ _ _ _),HG2⟩
 case round =>
  obtain ⟨j,B,m,cb,hj,rfl,rfl,HM,HO,HG⟩:=hrel
  by_cases hlt:j < n
  ·obtain ⟨ad,x,rfl,hx,hb,hc⟩:=Hts.at (HX.out.grow HG.out) hlt
   have k0:(0:Int)≤(j:Int):=by omega
   have k1:(j:Int) < (n:Int):=by omega
   obtain ⟨c0,c1,c2,c3⟩:=hc _ (Below.refl _ _)
   have htk:l.take (j+1)=l.take j++[x]:=by rw [List.take_add_one,hx];rfl
   have hax:=HAL.out x (List.mem_of_getElem? hx)
   have hnx:=Zdv hax
   have hrow:rowsH (l.take (j+1))=rowsH (l.take j)++putB (bodyH x):=by
    unfold rowsH
    rw [htk,List.map_append,putL_append,List.map_cons,List.map_nil,putL,putL,List.append_nil]
   have hrl:(rowsH (l.take j)).length≤79*j:=by
    have:=Zhb (l:=l.take j) fun y hy=>HAL.out y (List.mem_of_mem_take hy)
    rw [List.length_take] at this
    omega
   have hpb:(putB (bodyH x)).length≤79:=by
    rw [Ye (Zg9 hax),Zl,Zbz]
    omega
   have HQ:=hid (And.intro hrow (And.intro hrl (And.intro hpb hnx)))
   have hm:=Whole.made wr 167 #[.int .i64 x.kind,.string ⟨x.key.toArray⟩,.int .i64 x.at_,.int .i64 x.size]
   have hg1:=Zb wr (.cells #[.int .i64 x.kind,.string ⟨x.key.toArray⟩,.int .i64 x.at_,.int .i64 x.size] 167)
   obtain ⟨W1,hW1⟩:∃ y,wr.alloc (.cells #[.int .i64 x.kind,.string ⟨x.key.toArray⟩,.int .i64 x.at_,.int .i64 x.size] 167)=y:=⟨_,rfl⟩
   rw [hW1] at hm hg1
   have m0:=hm.cell 0
   have m1:=hm.cell 1
   have m2:=hm.cell 2
   have m3:=hm.cell 3
   simp only [Gt] at m0 m1 m2 m3
   have HM1:=hid (And.intro (Zd HO.out hg1) (Below.trans HG.out (hg1.mono HG.out.size)))
   clear hc hx hb htk hm hg1 hax hnx hrow hrl hpb
   go_wp2_with (fail)
   clear hW1 m0 m1 m2 m3
   refine (Zrb x W1 (by have:=HQ.out.2.2.2;omega)).mono ?_
   rintro e w3 ⟨A3,c3',rfl,ho3,hg3⟩
   have H3:=hid (And.intro ho3 (And.intro (Zd HM1.out.1 hg3) (Below.trans HM1.out.2 (hg3.mono HM1.out.2.size))))
   clear ho3 hg3 HM1
   go_wp2_with (fail)
   refine (Za9 A3 (7+x.key.length) c3' (bodyH x) w3 (Sl.owned H3.out.1) (by unfold maxLen;have:=HQ.out.2.2.2;omega)).mono ?_
   rintro e w4 ⟨A4,m4,c4,rfl,ho4,hg4⟩
   have hg4:Grows w3 w4:=hg4
   have hs4:=Sl.owned ho4
   have HL4:=hid hs4.len
   have H4:=hid (And.intro hs4 (And.intro (Zd H3.out.2.1 hg4) (Below.trans H3.out.2.2 (hg4.mono H3.out.2.2.size))))
   obtain ⟨k4,hk4⟩:∃ k,m+m4=k:=⟨_,rfl⟩
   have HK:=hid hk4
   clear ho4 hs4 hg4 H3 hk4
   go_wp2_with (first
    | (at_builtin
       refine Za4 isSl_bytes isSl_bytes rfl (.tmp 22) (.tmp 25) rfl (base:=w.heap.size) rfl H4.out.2.1 rfl H4.out.1 k4 HK.out (by have h1:=HK.out;have h2:=HM.out;have h3:=HL4.out;have h4:=HQ.out.2.1;have h5:=HQ.out.2.2.1;omega) H4.out.2.2.size ?_
       intro A5 c5 w5 ho5 hb5 hs5
       have H5:=hid (And.intro ho5 (Below.trans H4.out.2.2 hb5))
       clear ho5 hb5 hs5)
    | fail)
   go_roundw
   case rel=>exact ⟨j+1,A5,k4,c5,by omega,by go_num,rfl,hid (by rw [HQ.out.1,List.length_append,←HK.out,HM.out,HL4.out]),hid (by rw [HQ.out.1];exact H5.out.1),hid H5.out.2⟩
   case measure=>simp [intOf];omega
  ·obtain rfl:j=n:=by omega
   have hall:l.take j=l:=List.take_of_length_le (by rw [HLE.out];exact Nat.le_refl _)
   have hrl:(rowsH l).length≤79*j:=by
    have:=Zhb (l:=l) HAL.out
    rw [HLE.out] at this
    exact this
   rw [hall] at HM HO
   have HML:=hid (And.intro HM.out hrl)
   clear hall hrl
   go_wp2_with (fail)
   refine (Zj6 (j:Int) size B m cb (rowsH l) wr (Sl.owned HO.out) (by unfold maxLen;have:=HML.out;omega)).mono ?_
   rintro e w3 ⟨A3,c3,rfl,ho3,hg3⟩
   have H3:=hid (And.intro (Sl.owned ho3) (And.intro (Zd HO.out hg3) (Below.trans HG.out (hg3.mono HG.out.size))))
   clear ho3 hg3 HO HG
   go_wp2_with (fail)
   refine (Za9 A3 13 c3 _ w3 H3.out.1 (by unfold maxLen;omega)).mono ?_
   rintro e w4 ⟨A4,m4,c4,rfl,ho4,hg4⟩
   have hg4:Grows w3 w4:=hg4
   have hs4:=Sl.owned ho4
   have HL4:=hid (show m4=21 by have:=hs4.len;rw [Ye (Zdw _ _ _),Zl,Zaj] at this;omega)
   have H4:=hid (And.intro hs4 (And.intro (Zd H3.out.2.1 hg4) (Below.trans H3.out.2.2 (hg4.mono H3.out.2.2.size))))
   obtain ⟨k4,hk4⟩:∃ k,m+m4=k:=⟨_,rfl⟩
   have HK:=hid hk4
   clear ho4 hs4 hg4 H3 hk4
   go_wp2_with (first
    | (at_builtin
       refine Za4 isSl_bytes isSl_bytes rfl (.tmp 28) (.tmp 34) rfl (base:=w.heap.size) rfl H4.out.2.1 rfl H4.out.1 k4 HK.out (by have h1:=HK.out;have h2:=HML.out;have h3:=HL4.out;omega) H4.out.2.2.size ?_
       intro A5 c5 w5 ho5 hb5 hs5
       have H5:=hid (And.intro ho5 (Below.trans H4.out.2.2 hb5))
       clear ho5 hb5 hs5)
    | fail)
   go_ret
   have hput:putH l size=rowsH l++putB (lastB (j:Int) size (rowsH l)):=by
    rw [Znw HRO.out.1 HRO.out.2,putL_append,putL,putL,List.append_nil,HLE.out]
    rfl
   refine ⟨A5,k4,c5,rfl,?_,?_,H5.out.2⟩
   ·rw [hput,List.length_append,Ye (Zdw _ _ _),Zl,Zaj,←HK.out,HML.out.1,HL4.out]
   ·rw [hput]
    exact H5.out.1
end Go.Proofs.YtkelafkbmnjpeaaGreat
