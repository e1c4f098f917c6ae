/-
  Texts that the statements lean on, one behind the other.
-/
import Derived.Test.YtkelafkbmnjpeaaGreatMG29
import Derived.Test.YtkelafkbmnjpeaaGreatMG16
import Derived.Test.YtkelafkbmnjpeaaGreatMG03
import Derived.Shelf.SlSortCmp.NoneTotal
import Derived.Test.YtkelafkbmnjpeaaGreatProg
import Derived.Test.YtkelafkbmnjpeaaGreatMG28
import Derived.Test.YtkelafkbmnjpeaaGreatMG04
import Derived.Lib.OwnBridge
import Derived.Lib.Hide
import Derived.Test.YtkelafkbmnjpeaaGreatMG00
set_option linter.unusedSimpArgs false
set_option linter.unusedVariables false
set_option maxHeartbeats 4000000
set_option maxRecDepth 100000
namespace Go.Proofs.YtkelafkbmnjpeaaGreat
open Go.Lib (hid)
open Go.RowKit
attribute [local irreducible] wpF
theorem Zdz {fn:Func} {p:Tmp} (h:fn.results=#[.cell p 167]) (tmps:Array Value) (w:World) (g:Nat) (t:TypeId) (u0 u1 u2 u3:Value)
 (hp:tmps.getD p undef=.pointer (some ⟨g,0,none⟩)) (hg:Whole w g t #[u0,u1,u2,u3]) :
 (results fn tmps).run Tryz.prog w=.ok (.agg #[u0,u1,u2,u3]) w:=by
 have hp':tmps[p]?.getD undef=.pointer (some ⟨g,0,none⟩):=by simpa using hp
 have hi:(Tryz.prog.info? 167).map (·.size)=some 4:=by kernel_rfl
 simp [results,h,hp',asAddr,run_loadVar_row w g t 167 #[u0,u1,u2,u3] (0,0) _ hg Tryz.underlying167 rfl hi]
theorem Zlg (A:Option Addr) (n c:Nat) (bs:List UInt8) (w:World) (hs:Sl w A n c bs) (hn:n≤1000000) :
 Calls Tryz.prog 231 #[.slice A n c] w fun e w'=>e=.returned (htV (toldH bs))∧Grows w w':=by
 have hlen:=hs.len
 have hcap:=hs.cap
 have hm:=Whole.made w 167 #[.int .i64 0,.string ⟨#[]⟩,.int .i64 0,.int .i64 0]
 have hg:=Zb w (.cells #[.int .i64 0,.string ⟨#[]⟩,.int .i64 0,.int .i64 0] 167)
 obtain ⟨W1,hW1⟩:∃ y,w.alloc (.cells #[.int .i64 0,.string ⟨#[]⟩,.int .i64 0,.int .i64 0] 167)=y:=⟨_,rfl⟩
 rw [hW1] at hm hg
 have HS:=hid (hs.grow hg)
 have HM:=hid hm
 have HG:=hid hg
 have HWW:=hid hW1
 have f0:=hm.free 0
 have f1:=hm.free 1
 have f2:=hm.free 2
 have f3:=hm.free 3
 have z0:=hm.cell 0
 have z1:=hm.cell 1
 have z2:=hm.cell 2
 have z3:=hm.cell 3
 simp only [Gt] at z0 z1 z2 z3
 clear hs hm hg
 by_cases h7:n < 7
 ·have h7':(n:Int) < 7:=by omega
  have HT:=hid (show toldH bs=Ht.none by unfold toldH;rw [if_pos (by omega)])
  clear h7
  go_enter Tryz.func231,Tryz.ntmps231
  go_wp2_with (first | rw [hW1] | fail)
  refine bodyPost_ret (Zdz rfl _ _ w.heap.size _ _ _ _ _ rfl (show Whole _ _ _ #[.int .i64 0,.string ⟨#[]⟩,.int .i64 0,.int .i64 0] from (((HM.out.put 0 _).put 1 _).put 2 _).put 3 _)) rfl ?_
  exact ⟨by rw [HT.out];rfl,(((HG.out.setCell (p:=⟨w.heap.size,0,none⟩) (Nat.le_refl _) _).setCell (p:=⟨w.heap.size,1,none⟩) (Nat.le_refl _) _).setCell (p:=⟨w.heap.size,2,none⟩) (Nat.le_refl _) _).setCell (p:=⟨w.heap.size,3,none⟩) (Nat.le_refl _) _⟩
 have h7':¬ (n:Int) < 7:=by omega
 obtain ⟨ad,rfl⟩:∃ ad,A=some ad:=by
  rcases A with _ | ad
  ·have:=HS.out.bare rfl;omega
  ·exact ⟨ad,rfl⟩
 have hp0:=HS.out.first (k:=1) (by omega)
 have hp1:=(HS.out.part (k:=1) (m:=5) (by omega) (by omega) (by omega))
 have hp5:=(HS.out.part (k:=5) (m:=7) (by omega) (by omega) (by omega))
 rw [show 5 - 1=4 from rfl] at hp1
 rw [show 7 - 5=2 from rfl] at hp5
 obtain ⟨x0,hx0⟩:∃ x,valB (bs.take 1)=x:=⟨_,rfl⟩
 obtain ⟨x1,hx1⟩:∃ x,valB ((bs.take 5).drop 1)=x:=⟨_,rfl⟩
 obtain ⟨x2,hx2⟩:∃ x,valB ((bs.take 7).drop 5)=x:=⟨_,rfl⟩
 obtain ⟨ks,hks⟩:∃ x,bs.drop 7=x:=⟨_,rfl⟩
 have HT:=hid (show toldH bs=⟨x0,ks,x1,x2⟩ by unfold toldH;rw [if_neg (by omega),hx0,hx1,hx2,hks])
 have HN0:=hid (fun w' (hC:Grows W1 w')=>hx0 ▸ Zbb _ 1 c _ w' (hp0.grow hC) (by omega))
 have HN1:=hid (fun w' (hC:Grows W1 w')=>hx1 ▸ Zbb _ 4 (c - 1) _ w' (hp1.grow hC) (by omega))
 have HN2:=hid (fun w' (hC:Grows W1 w')=>hx2 ▸ Zbb _ 2 (c - 5) _ w' (hp5.grow hC) (by omega))
 have k1:¬ c=1:=by omega
 have k5:¬ c=5:=by omega
 have i1:(1:Int)≤(c:Int):=by omega
 have i5:(5:Int)≤(c:Int):=by omega
 have i7:(7:Int)≤(c:Int):=by omega
 have j7:(7:Int)≤(n:Int):=by omega
 have jc:(n:Int)≤(c:Int):=by omega
 have HCAP:=hid (And.intro hlen (And.intro hcap h7))
 obtain ⟨r7,hr7⟩:∃ r7,n - 7=r7:=⟨_,rfl⟩
 clear hp0 hp1 hp5 hx0 hx1 hx2 hlen hcap h7
 by_cases hc7:c=7
 ·have HKS:=hid (fun w' (hC:Grows W1 w')=>show Sl w' (some ad) r7 (c - 7) ks from by
   have h1:=HCAP.out
   have e:ks=[]:=by rw [←hks];exact List.drop_eq_nil_of_le (by omega)
   have e2:r7=0:=by omega
   rw [e,e2]
   exact ⟨Bytes.nil _ _ _,Nat.zero_le _,fun h=>by cases h⟩)
  clear hks
  go_enter Tryz.func231,Tryz.ntmps231
  go_wp2_with (first | rw [hW1] | fail)
  clear hW1
  refine Zf (E:=Grows) 12 [Za (.slice (some ad) n c),Za (.slice (some ad) 1 c),Za (.int .i64 x0),Za (.slice (some ad) n c),Za (.slice (some ad) r7 (c - 7)),Za (.string ⟨ks.toArray⟩),Za (.slice (some ad) n c),Za (.slice (some (ad.add 1)) 4 (c - 1)),Za (.int .i64 x1),Za (.slice (some ad) n c),Za (.slice (some (ad.add 5)) 2 (c - 5)),Za (.int .i64 x2)] mixed (by kernel_rfl) (fun _ _ _=>Grows.trans) (Ze _) ?_
  simp only [List.take_succ_cons,List.take_zero,List.drop_succ_cons,List.drop_zero]
  iterate 2
   refine f_val _ (by rfl) ?_ ?_
   ·intro w' hC;clear hC;go_simp
   simp only [Pu]
  refine Zv 283 #[.slice (some ad) 1 c] (.int .i64 x0) (by rfl) (by intro w' hC;clear hC;go_simp) ?_ ?_
  ·intro w' hC hks;exact (HN0.out w' hC).mono fun e w'' hh=>⟨hh.1,hh.2 ▸ Below.refl _ _⟩
  simp only [Pu]
  iterate 2
   refine f_val _ (by rfl) ?_ ?_
   ·intro w' hC;clear hC;go_simp
   simp only [Pu]
  refine Zko _ (by rfl) ?_ ?_
  ·intro w' hC hks;exact Zcw rfl rfl (HKS.out w' hC)
  simp only [Pu]
  iterate 2
   refine f_val _ (by rfl) ?_ ?_
   ·intro w' hC;clear hC;go_simp
   simp only [Pu]
  refine Zv 283 #[.slice (some (ad.add 1)) 4 (c - 1)] (.int .i64 x1) (by rfl) (by intro w' hC;clear hC;go_simp) ?_ ?_
  ·intro w' hC hks;exact (HN1.out w' hC).mono fun e w'' hh=>⟨hh.1,hh.2 ▸ Below.refl _ _⟩
  simp only [Pu]
  iterate 2
   refine f_val _ (by rfl) ?_ ?_
   ·intro w' hC;clear hC;go_simp
   simp only [Pu]
  refine Zv 283 #[.slice (some (ad.add 5)) 2 (c - 5)] (.int .i64 x2) (by rfl) (by intro w' hC;clear hC;go_simp) ?_ ?_
  ·intro w' hC hks;exact (HN2.out w' hC).mono fun e w'' hh=>⟨hh.1,hh.2 ▸ Below.refl _ _⟩
  simp only [Pu]
  refine Zs ?_
  intro w2 hC hks
  have HCw2:=hid hC
  clear hC hks
  have hm2:=HCw2.out.whole HM.out
  have q0:=hm2.free 0
  have q1:=hm2.free 1
  have q2:=hm2.free 2
  have q3:=hm2.free 3
  have y0:=hm2.cell 0
  have y1:=hm2.cell 1
  have y2:=hm2.cell 2
  have y3:=hm2.cell 3
  simp only [Gt] at y0 y1 y2 y3
  have HM2:=hid hm2
  clear hm2 f0 f1 f2 f3 z0 z1 z2 z3
  go_wp2_with (fail)
  refine bodyPost_ret (Zdz rfl _ _ w.heap.size _ _ _ _ _ rfl (show Whole _ _ _ #[.int .i64 x0,.string ⟨ks.toArray⟩,.int .i64 x1,.int .i64 x2] from (((HM2.out.put 0 _).put 1 _).put 2 _).put 3 _)) rfl ?_
  exact ⟨by rw [HT.out];rfl,((((HG.out.trans HCw2.out).setCell (p:=⟨w.heap.size,0,none⟩) (Nat.le_refl _) _).setCell (p:=⟨w.heap.size,1,none⟩) (Nat.le_refl _) _).setCell (p:=⟨w.heap.size,2,none⟩) (Nat.le_refl _) _).setCell (p:=⟨w.heap.size,3,none⟩) (Nat.le_refl _) _⟩
 ·have HKS:=hid (fun w' (hC:Grows W1 w')=>show Sl w' (some (ad.add 7)) r7 (c - 7) ks from by
   have h1:=HCAP.out
   have h0:=(HS.out.grow hC).part (k:=7) (m:=n) (by omega) (by omega) hc7
   rw [List.take_of_length_le (by omega),hr7,hks] at h0
   exact h0)
  clear hks
  go_enter Tryz.func231,Tryz.ntmps231
  go_wp2_with (first | rw [hW1] | fail)
  clear hW1
  refine Zf (E:=Grows) 12 [Za (.slice (some ad) n c),Za (.slice (some ad) 1 c),Za (.int .i64 x0),Za (.slice (some ad) n c),Za (.slice (some (ad.add 7)) r7 (c - 7)),Za (.string ⟨ks.toArray⟩),Za (.slice (some ad) n c),Za (.slice (some (ad.add 1)) 4 (c - 1)),Za (.int .i64 x1),Za (.slice (some ad) n c),Za (.slice (some (ad.add 5)) 2 (c - 5)),Za (.int .i64 x2)] mixed (by kernel_rfl) (fun _ _ _=>Grows.trans) (Ze _) ?_
  simp only [List.take_succ_cons,List.take_zero,List.drop_succ_cons,List.drop_zero]
  iterate 2
   refine f_val _ (by rfl) ?_ ?_
   ·intro w' hC;clear hC;go_simp
   simp only [Pu]
  refine Zv 283 #[.slice (some ad) 1 c] (.int .i64 x0) (by rfl) (by intro w' hC;clear hC;go_simp) ?_ ?_
  ·intro w' hC hks;exact (HN0.out w' hC).mono fun e w'' hh=>⟨hh.1,hh.2 ▸ Below.refl _ _⟩
  simp only [Pu]
  iterate 2
   refine f_val _ (by rfl) ?_ ?_
   ·intro w' hC;clear hC;go_simp
   simp only [Pu]
  refine Zko _ (by rfl) ?_ ?_
  ·intro w' hC hks;exact Zcw rfl rfl (HKS.out w' hC)
  simp only [Pu]
  iterate 2
   refine f_val _ (by rfl) ?_ ?_
   ·intro w' hC;clear hC;go_simp
   simp only [Pu]
  refine Zv 283 #[.slice (some (ad.add 1)) 4 (c - 1)] (.int .i64 x1) (by rfl) (by intro w' hC;clear hC;go_simp) ?_ ?_
  ·intro w' hC hks;exact (HN1.out w' hC).mono fun e w'' hh=>⟨hh.1,hh.2 ▸ Below.refl _ _⟩
  simp only [Pu]
  iterate 2
   refine f_val _ (by rfl) ?_ ?_
   ·intro w' hC;clear hC;go_simp
   simp only [Pu]
  refine Zv 283 #[.slice (some (ad.add 5)) 2 (c - 5)] (.int .i64 x2) (by rfl) (by intro w' hC;clear hC;go_simp) ?_ ?_
  ·intro w' hC hks;exact (HN2.out w' hC).mono fun e w'' hh=>⟨hh.1,hh.2 ▸ Below.refl _ _⟩
  simp only [Pu]
  refine Zs ?_
  intro w2 hC hks
  have HCw2:=hid hC
  clear hC hks
  have hm2:=HCw2.out.whole HM.out
  have q0:=hm2.free 0
  have q1:=hm2.free 1
  have q2:=hm2.free 2
  have q3:=hm2.free 3
  have y0:=hm2.cell 0
  have y1:=hm2.cell 1
  have y2:=hm2.cell 2
  have y3:=hm2.cell 3
  simp only [Gt] at y0 y1 y2 y3
  have HM2:=hid hm2
  clear hm2 f0 f1 f2 f3 z0 z1 z2 z3
  go_wp2_with (fail)
  refine bodyPost_ret (Zdz rfl _ _ w.heap.size _ _ _ _ _ rfl (show Whole _ _ _ #[.int .i64 x0,.string ⟨ks.toArray⟩,.int .i64 x1,.int .i64 x2] from (((HM2.out.put 0 _).put 1 _).put 2 _).put 3 _)) rfl ?_
  exact ⟨by rw [HT.out];rfl,((((HG.out.trans HCw2.out).setCell (p:=⟨w.heap.size,0,none⟩) (Nat.le_refl _) _).setCell (p:=⟨w.heap.size,1,none⟩) (Nat.le_refl _) _).setCell (p:=⟨w.heap.size,2,none⟩) (Nat.le_refl _) _).setCell (p:=⟨w.heap.size,3,none⟩) (Nat.le_refl _) _⟩
theorem Zgc (A:Option Addr) (n c:Nat) (xs:List UInt8) (B:Option Addr) (m d:Nat) (ys:List UInt8) (w:World) (hx:Sl w A n c xs) (hy:Sl w B m d ys) :
 Calls Tryz.prog 155 #[.slice A n c,.slice B m d] w fun e w'=>e=.returned (.bool (decide (xs=ys)))∧Grows w w':=by
 have e1:=Z4 hx
 have e2:=Z4 hy
 clear hx hy
 go_enter Tryz.func155,Tryz.ntmps155
 go_wp2_with (fail)
 go_ret
 exact ⟨Zm (by rw [Bool.eq_iff_iff];simp),Below.refl _ _⟩
theorem infoHt:(Tryz.prog.info? 167).map (fun i=>(i.zero,i.size,i.bytes))=some (some (.agg #[.int .i64 0,.string ⟨#[]⟩,.int .i64 0,.int .i64 0]),4,40):=by kernel_rfl
theorem Zra {t:TypeId} {z:Value} {a b:Nat} (h:(Tryz.prog.info? t).map (fun i=>(i.zero,i.size,i.bytes))=some (some z,a,b)):∃ i,Tryz.prog.info? t=some i∧i.zero=some z∧i.size=a∧i.bytes=b:=by
 cases h1:Tryz.prog.info? t with
 | none=>rw [h1] at h;cases h
 | some i =>
   rw [h1] at h
   simp only [Option.map_some,Option.some.injEq,Prod.mk.injEq] at h
   exact ⟨i,rfl,h.1,h.2.1,h.2.2⟩
theorem Zj5 {α:Type} (enc:α→List Value) (l:List α) (x:α):(l++[x]).flatMap enc=l.flatMap enc++enc x:=by simp
theorem Ztk (A:Option Addr) (n c:Nat) (ts:List It) (w:World) (h:Items w A n c ts) (hn:n≤1000000) (hb:∀ t∈ts,t.2.2.length≤1000000) :
 Calls Tryz.prog 153 #[.slice A n c] w fun e w'=>∃ A' c',e=.returned (.slice A' n c') ∧
  w'.ownsRow w.heap.size 167 4 (.slice A' n c') n ((ts.map fun t=>toldH t.2.2).flatMap htE)∧Grows w w':=by
 have HX:=hid h
 have hlen:=h.len
 have HBB:=hid hb
 clear h hb
 obtain ⟨i0,hi0,hz0,hz1,hz2⟩:=Zra infoHt
 have HI:=hid (And.intro hi0 (And.intro hz0 (And.intro hz1 hz2)))
 clear hi0 hz0 hz1 hz2
 go_enter Tryz.func153,Tryz.ntmps153
 go_wp2_with (fail)
 go_loopw [3,8] (fun b i wr=>∃ (j:Nat) (B:Option Addr) (cb:Nat),j≤n∧i=.int .i64 (j:Nat)∧b=.slice B j cb∧Hid (wr.ownsRow w.heap.size 167 4 (.slice B j cb) j (((ts.take j).map fun t=>toldH t.2.2).flatMap htE))∧Hid (Below w.heap.size w wr)) (fun _ i _=>n - (intOf i).toNat)
 case atStart=>exact ⟨0,none,0,by omega,rfl,rfl,hid (World.ownsRow_nil _ _ _ _),hid (Below.refl _ _)⟩
 case round =>
  obtain ⟨j,B,cb,hj,rfl,rfl,HO,HG⟩:=hrel
  by_cases hlt:j < n
  ·obtain ⟨ad,SB,sm,sd,rfl,hc0,hc1,hc2,hsl⟩:=(Items.grow HG.out HX.out).spot hlt
   obtain ⟨t,ht⟩:∃ t,ts[j]?=some t:=⟨_,List.getElem?_eq_getElem (by omega)⟩
   have hgd:ts.getD j (0,0,[])=t:=by rw [List.getD_eq_getElem?_getD,ht];rfl
   rw [hgd] at hc0 hc1 hsl
   have k0:(0:Int)≤(j:Int):=by omega
   have k1:(j:Int) < (n:Int):=by omega
   have c0:=hc0 _ (Below.refl _ _)
   have c1:=hc1 _ (Below.refl _ _)
   have c2:=hc2 _ (Below.refl _ _)
   have htk:ts.take (j+1)=ts.take j++[t]:=by rw [List.take_add_one,ht];rfl
   have hsm:sm≤1000000:=by
    have h1:=HBB.out t (List.mem_of_getElem? ht)
    rw [hsl.len] at h1
    exact h1
   have hrow:((ts.take (j+1)).map fun t=>toldH t.2.2).flatMap htE=(((ts.take j).map fun t=>toldH t.2.2).flatMap htE)++htE (toldH t.2.2):=by
    rw [htk,List.map_append,List.map_cons,List.map_nil,Zj5]
   have HQ:=hid (And.intro hrow (And.intro hsl hsm))
   obtain ⟨x,y,bs⟩:=t
   dsimp only at c0 c1 HQ
   have hm:=Whole.made wr 212 #[.int .i64 (x:Nat),.int .i64 (y:Nat),.slice SB sm sd]
   have hg1:=Zb wr (.cells #[.int .i64 (x:Nat),.int .i64 (y:Nat),.slice SB sm sd] 212)
   obtain ⟨W1,hW1⟩:∃ z,wr.alloc (.cells #[.int .i64 (x:Nat),.int .i64 (y:Nat),.slice SB sm sd] 212)=z:=⟨_,rfl⟩
   rw [hW1] at hm hg1
   have m0:=hm.cell 0
   have m1:=hm.cell 1
   have m2:=hm.cell 2
   simp only [Gt] at m0 m1 m2
   have HM1:=hid (And.intro (Zd HO.out hg1) (And.intro (Below.trans HG.out (hg1.mono HG.out.size)) (HQ.out.2.1.grow hg1)))
   clear hc0 hc1 hc2 hsl htk hm hg1 hrow ht hgd
   go_wp2_with (fail)
   clear hW1 m0 m1 m2
   refine (Zlg SB sm sd bs W1 HM1.out.2.2 HQ.out.2.2).mono ?_
   rintro e w3 ⟨rfl,hg3⟩
   obtain ⟨hh,hhh⟩:∃ z,toldH bs=z:=⟨_,rfl⟩
   rw [hhh] at HQ ⊢
   obtain ⟨hk,hkey,ha,hsz⟩:=hh
   show _
   unfold htV
   have hg4:=Zb w3 (.cells #[.int .i64 hk,.string ⟨hkey.toArray⟩,.int .i64 ha,.int .i64 hsz] 167)
   have hm4:=Whole.made w3 167 #[.int .i64 hk,.string ⟨hkey.toArray⟩,.int .i64 ha,.int .i64 hsz]
   have H3:=hid (And.intro (Zd HM1.out.1 (hg3.trans hg4)) (Below.trans HM1.out.2.1 ((hg3.trans hg4).mono HM1.out.2.1.size)))
   have HM4:=hid hm4
   clear hg3 hg4 hm4 hhh HM1
   go_wp2_with (first
    | (at_builtin
       refine Zfv rfl (.tmp 12) (.tmp 16) 78 rfl w.heap.size 167 i0 (.agg #[.int .i64 0,.string ⟨#[]⟩,.int .i64 0,.int .i64 0]) 4 40 Tryz.underlying78 HI.out.1 HI.out.2.1 HI.out.2.2.1 HI.out.2.2.2 rfl (by omega)
        rfl H3.out.1 (A:=some ⟨w3.heap.size,0,none⟩) (m:=1) (c:=1) rfl (Rs.lit htL HM4.out [(⟨hk,hkey,ha,hsz⟩:Ht)] rfl (n:=1) rfl).row (fun h=>by cases h) (fun u hu=>Zlh ⟨hk,hkey,ha,hsz⟩ u (by simpa using hu)) (j+1) rfl (by unfold maxLen;omega) (by omega) H3.out.2.size ?_
       intro A5 c5 w5 ho5 hg5 _
       have H5:=hid (And.intro ho5 (Zjc H3.out.2 hg5 H3.out.2.size (fun g hg=>(Zaw H3.out.1 hg).1)))
       clear ho5 hg5)
    | fail)
   go_roundw
   case rel=>exact ⟨j+1,A5,c5,by omega,by go_num,rfl,hid (by rw [HQ.out.1];simpa using H5.out.1),hid H5.out.2⟩
   case measure=>simp [intOf];omega
  ·obtain rfl:j=n:=by omega
   have hall:ts.take j=ts:=List.take_of_length_le (by omega)
   rw [hall] at HO
   have HF:=hid (And.intro HO.out HG.out)
   clear hall
   go_wp2_with (fail)
   go_ret
   exact ⟨B,cb,rfl,HF.out.1,HF.out.2⟩
end Go.Proofs.YtkelafkbmnjpeaaGreat
namespace Go.Proofs.YtkelafkbmnjpeaaGreat
open Go.Shelf
def sortHt_ren:Go.Shelf.Ren:=⟨fun | 6=>269 | 15=>181 | 14=>306 | 28=>254 | 29=>255 | 20=>315 | 21=>316 | 22=>317 | 23=>318 | 24=>319 | 25=>320 | 26=>321 | 27=>322 | 46=>324 | 47=>289 | 48=>290 | 49=>325 | 50=>326 | 57=>327 | n=>n,fun | 22=>78 | 24=>167 | 25=>244 | 3=>3 | 39=>159 | 0=>0 | 53=>41 | 55=>158 | 4=>4 | 46=>274 | 45=>273 | 50=>53 | 5=>5 | 9=>9 | 66=>299 | 70=>303 | 76=>313 | 77=>173 | n=>n,fun | n=>n⟩
theorem sortHt:Go.Proofs.SlLaysF0.n6 Tryz.prog sortHt_ren:={
  mixed:=by kernel_rfl
  f6:=⟨Tryz.f269.name,by decide,Tryz.func269.trans (congrArg some (by kernel_rfl))⟩
  f14:=⟨Tryz.f306.name,by decide,Tryz.func306.trans (congrArg some (by kernel_rfl))⟩
  f15:=Tryz.func181.trans (congrArg some (by kernel_rfl))
  f20:=⟨Tryz.f315.name,by decide,Tryz.func315.trans (congrArg some (by kernel_rfl))⟩
  f21:=⟨Tryz.f316.name,by decide,Tryz.func316.trans (congrArg some (by kernel_rfl))⟩
  f22:=⟨Tryz.f317.name,by decide,Tryz.func317.trans (congrArg some (by kernel_rfl))⟩
  f23:=⟨Tryz.f318.name,by decide,Tryz.func318.trans (congrArg some (by kernel_rfl))⟩
  f24:=⟨Tryz.f319.name,by decide,Tryz.func319.trans (congrArg some (by kernel_rfl))⟩
  f25:=⟨Tryz.f320.name,by decide,Tryz.func320.trans (congrArg some (by kernel_rfl))⟩
  f26:=⟨Tryz.f321.name,by decide,Tryz.func321.trans (congrArg some (by kernel_rfl))⟩
  f27:=⟨Tryz.f322.name,by decide,Tryz.func322.trans (congrArg some (by kernel_rfl))⟩
  f28:=Tryz.func254.trans (congrArg some (by kernel_rfl))
  f29:=Tryz.func255.trans (congrArg some (by kernel_rfl))
  f46:=⟨Tryz.f324.name,by decide,Tryz.func324.trans (congrArg some (by kernel_rfl))⟩
  f47:=Tryz.func289.trans (congrArg some (by kernel_rfl))
  f48:=Tryz.func290.trans (congrArg some (by kernel_rfl))
  f49:=⟨Tryz.f325.name,by decide,Tryz.func325.trans (congrArg some (by kernel_rfl))⟩
  f50:=⟨Tryz.f326.name,by decide,Tryz.func326.trans (congrArg some (by kernel_rfl))⟩
  f57:=⟨Tryz.f327.name,by decide,Tryz.func327.trans (congrArg some (by kernel_rfl))⟩
  t0:=Tryz.underlying0
  a0:=Tryz.isAgg0
  z0:=Tryz.sizeOf0
  v0:=Tryz.zeroValue0
  t3:=Tryz.underlying3
  a3:=Tryz.isAgg3
  z3:=Tryz.sizeOf3
  v3:=Tryz.zeroValue3
  t4:=Tryz.underlying4
  a4:=Tryz.isAgg4
  z4:=Tryz.sizeOf4
  v4:=Tryz.zeroValue4
  t5:=Tryz.underlying5
  a5:=Tryz.isAgg5
  z5:=Tryz.sizeOf5
  v5:=Tryz.zeroValue5
  t9:=Tryz.underlying9
  a9:=Tryz.isAgg9
  z9:=Tryz.sizeOf9
  v9:=Tryz.zeroValue9
  t22:=Tryz.underlying78
  a22:=Tryz.isAgg78
  z22:=Tryz.sizeOf78
  v22:=Tryz.zeroValue78
  t25:=Tryz.underlying244
  a25:=Tryz.isAgg244
  z25:=Tryz.sizeOf244
  v25:=Tryz.zeroValue244
  t39:=Tryz.underlying159
  a39:=Tryz.isAgg159
  z39:=Tryz.sizeOf159
  v39:=Tryz.zeroValue159
  t45:=Tryz.underlying273
  a45:=Tryz.isAgg273
  z45:=Tryz.sizeOf273
  v45:=Tryz.zeroValue273
  t46:=Tryz.underlying274
  a46:=Tryz.isAgg274
  z46:=Tryz.sizeOf274
  v46:=Tryz.zeroValue274
  t50:=Tryz.underlying53
  a50:=Tryz.isAgg53
  z50:=Tryz.sizeOf53
  v50:=Tryz.zeroValue53
  t53:=Tryz.underlying41
  a53:=Tryz.isAgg41
  z53:=Tryz.sizeOf41
  v53:=Tryz.zeroValue41
  t55:=Tryz.underlying158
  a55:=Tryz.isAgg158
  z55:=Tryz.sizeOf158
  v55:=Tryz.zeroValue158
  t66:=Tryz.underlying299
  a66:=Tryz.isAgg299
  z66:=Tryz.sizeOf299
  v66:=Tryz.zeroValue299
  t70:=Tryz.underlying303
  a70:=Tryz.isAgg303
  z70:=Tryz.sizeOf303
  v70:=Tryz.zeroValue303
  t76:=Tryz.underlying313
  a76:=Tryz.isAgg313
  z76:=Tryz.sizeOf313
  v76:=Tryz.zeroValue313
  t77:=Tryz.underlying173
  a77:=Tryz.isAgg173
  z77:=Tryz.sizeOf173
  v77:=Tryz.zeroValue173 }
end Go.Proofs.YtkelafkbmnjpeaaGreat
set_option maxHeartbeats 1000000
namespace Go.Proofs.YtkelafkbmnjpeaaGreat
open Go.Shelf Go.RowKit Go.Lib Go.Sort
theorem cmp_before:∀ a b:List UInt8,decide (Lib.compareBytes a b < 0)=bytesBefore a b
 | [],[]=>rfl
 | [],_ :: _=>rfl
 | _ :: _,[]=>rfl
 | x :: r,y :: s=>by
   have ih:=cmp_before r s
   unfold Lib.compareBytes
   by_cases h1:x < y
   ·have h1':x.toNat < y.toNat:=h1
    simp [h1,bytesBefore]
   ·have h1':¬ x.toNat < y.toNat:=h1
    by_cases h2:y < x
    ·have hne:¬ x=y:=fun e=>by subst e;exact h1 h2
     simp [h1,h2,bytesBefore,hne]
    ·have h2':¬ y.toNat < x.toNat:=h2
     have he:x=y:=UInt8.toNat_inj.1 (by omega)
     subst he
     simp only [h1,if_false,ih]
     simp [bytesBefore,h1]
def cfH (x y:Ht):Int:=Lib.compareBytes x.key y.key
theorem ltH (x y:Ht):ltOf cfH x y=bytesBefore x.key y.key:=cmp_before _ _
theorem swoH:SWO (ltOf cfH) where
 irrefl x:=by rw [ltH];exact hbef_irrefl _
 trans x y z h1 h2:=by rw [ltH] at *;exact hbef_trans h1 h2
 ntrans x y z h1 h2:=by
  rw [ltH] at *
  rcases h:bytesBefore x.key z.key with _ | _
  ·rfl
  ·exfalso
   by_cases e:x.key=y.key
   ·rw [←e,h] at h2;cases h2
   ·have h3:=hbef_trans (hbef_total h1 e) h
    rw [h3] at h2
    cases h2
theorem Zli (x y:Ht) (W:World):Calls Tryz.prog 209 #[htV x,htV y] W fun e w'=>e=.returned (.int .i64 (cfH x y))∧∃ q os',w'=grow (W.drewN q) os':=by
 obtain ⟨xk,xs,xa,xz⟩:=x
 obtain ⟨yk,ys,ya,yz⟩:=y
 show Calls _ _ #[.agg #[.int .i64 xk,.string ⟨xs.toArray⟩,.int .i64 xa,.int .i64 xz],.agg #[.int .i64 yk,.string ⟨ys.toArray⟩,.int .i64 ya,.int .i64 yz]] _ _
 have hcon:=fun W'=>strings_Compare ⟨xs.toArray⟩ ⟨ys.toArray⟩ W'
 obtain ⟨r,hr⟩:∃ r,cfH ⟨xk,xs,xa,xz⟩ ⟨yk,ys,ya,yz⟩=r:=⟨_,rfl⟩
 have hcon':∀ W',Calls Tryz.prog 210 #[.string ⟨xs.toArray⟩,.string ⟨ys.toArray⟩] W' fun e w'=>e=.returned (.int .i64 r)∧w'=W':=fun W'=>by
  rw [←hr]
  exact hcon W'
 rw [hr]
 have HC:=Go.Lib.hid hcon'
 clear hcon hcon' hr
 go_enter Tryz.func209,Tryz.ntmps209
 go_wp2_with (fail)
 refine (HC.out _).mono ?_
 rintro e w' ⟨rfl,rfl⟩
 go_wp2_with (fail)
 go_ret
 exact ⟨rfl,0,_,by rw [alloc_eq_grow,alloc_eq_grow,grow_grow];rfl⟩
theorem Zhe (l:List Ht):flatK htE 4 l.toArray=(l.flatMap htE).toArray:=by
 have hl:(l.flatMap htE).length=l.length*4:=Yz htL l
 refine ext_get! (by simp [hl]) fun t ht=>?_
 have ht':t < l.length*4:=by simpa using ht
 rw [get_flatK _ _ _ t (by simpa using ht')]
 have hq:t / 4 < l.length:=by omega
 have h1:=Zec htL l (t / 4) (t % 4) l[t / 4] (List.getElem?_eq_getElem hq) (by omega)
 rw [show t / 4*4+t % 4=t by omega] at h1
 have h2:t % 4 < (htE l[t / 4]).length:=by rw [htL];omega
 rw [getElem!_pos (l.flatMap htE).toArray t (by simp [hl];omega)]
 have h3:(l.flatMap htE)[t]'(by omega)=(htE l[t / 4])[t % 4]:=by
  have h4:(l.flatMap htE)[t]?=some (htE l[t / 4])[t % 4]:=by rw [h1,List.getElem?_eq_getElem h2]
  rw [List.getElem?_eq_getElem (by omega)] at h4
  exact Option.some.inj h4
 rw [getElem!_pos l.toArray (t / 4) (by simpa using hq),List.getElem_toArray,List.getElem_toArray,h3]
 exact getElem!_pos (htE l[t / 4]) (t % 4) h2
theorem Zn4 {w:World} {base:Nat} {e:TypeId} {g n cap q k:Nat} {xs ys:List Value} (h:w.ownsRow base e k (.slice (some ⟨g,0,none⟩) n cap) n xs) (hy:ys.length=xs.length) :
 (putRow id (Sort.ahead w q) g 0 ys.toArray).ownsRow base e k (.slice (some ⟨g,0,none⟩) n cap) n ys:=by
 have hx:=h.1
 rcases h.2 with ⟨e0,_⟩ | ⟨g',cap',cur,e0,hb,hg,hn,hm,hs,ht⟩
 ·cases e0
 ·injection e0 with e1 _ e3
  injection e1 with e1
  injection e1 with e1
  subst e1;subst e3
  refine ⟨by omega,.inr ⟨g,cap,putCells id 0 ys.toArray cur,rfl,hb,?_,hn,hm,by simpa [putCells] using hs,?_⟩⟩
  ·simp [putRow,mapBlock,Sort.ahead,Array.getElem?_modify,hg,onCells]
  ·have hnk:n*k≤cap*k:=Nat.mul_le_mul_right k hn
   apply List.ext_getElem?
   intro j
   rw [List.getElem?_take,Array.getElem?_toList]
   by_cases hj:j < n*k
   ·have hjc:j < cur.size:=by omega
    simp only [if_pos hj,putCells,Array.getElem?_mapIdx,Array.getElem?_eq_getElem hjc,Option.map_some]
    rw [if_pos (by simp;omega),List.getElem?_eq_getElem (by omega)]
    simp [getElem!_pos,show j < ys.length by omega]
   ·rw [if_neg hj,List.getElem?_eq_none (by omega)]
theorem Zhf (w:World) (os:Array Obj):Grows w (grow w os):=⟨rfl,rfl,rfl,by simp [grow],fun k hk=>by simp [grow,Array.getElem?_append,hk]⟩
theorem Zrd {w:World} {base:Nat} {e:TypeId} {g n cap:Nat} {l:List Ht} (h:w.ownsRow base e 4 (.slice (some ⟨g,0,none⟩) n cap) n (l.flatMap htE)):HoldsK htE 4 w g 0 l.toArray:=by
 unfold HoldsK
 rw [Zhe]
 intro j hj
 have hj':j < (l.flatMap htE).length:=by simpa using hj
 rw [Nat.zero_add]
 have h1:=h.cells (g:=g) rfl j _ (List.getElem?_eq_getElem hj')
 rw [show (⟨g,0,none⟩:Addr).add j=⟨g,j,none⟩ by unfold Addr.add;split <;> simp_all] at h1
 refine ⟨?_,?_⟩
 ·rw [h1,getElem!_pos (l.flatMap htE).toArray j (by simpa using hj')]
  simp
 ·rcases h.2 with ⟨e0,_⟩ | ⟨g',cap',cur,e0,hb,hg,_⟩
  ·cases e0
  ·injection e0 with e1 _ e3
   injection e1 with e1
   injection e1 with e1
   subst e1
   simp [World.frozen?,hg]
theorem Ztm {d d':Array Ht} (h:PermIn 0 d.size d d'):d'.toList.Perm d.toList:=by
 have h2:=h.2.2
 have h1:=h.1
 rw [Array.extract_eq_self_of_le (Nat.le_refl _),Array.extract_eq_self_of_le (by omega)] at h2
 exact h2
theorem Zn5 {d:Array Ht} (h:SortedIn (ltOf cfH) 0 d.size d):d.toList.Pairwise fun x y=>bytesBefore y.key x.key=false:=by
 rw [List.pairwise_iff_getElem]
 intro i j hi hj hij
 have hi':i < d.size:=by simpa using hi
 have hj':j < d.size:=by simpa using hj
 have h1:=h i j (Nat.zero_le _) hij hj'
 rw [ltH,getElem!_pos d j hj',getElem!_pos d i hi'] at h1
 simpa using h1
theorem agg35:∀ w,(isAgg 167).run Tryz.prog w=.ok true w:=fun w=>by kernel_rfl
theorem size35:∀ w,(Go.sizeOf 167).run Tryz.prog w=.ok 4 w:=fun w=>by kernel_rfl
theorem Zre (base:Nat) (A:Option Addr) (n c:Nat) (l:List Ht) (w:World) (ho:w.ownsRow base 167 4 (.slice A n c) n (l.flatMap htE)) (hn:n < 4611686018427387904) :
 Calls Tryz.prog 269 #[.slice A n c,.func (.func 209) #[] #[]] w fun e w'=>e=.returned (.tuple #[]) ∧
  ∃ l':List Ht,l'.Perm l∧(l'.Pairwise fun x y=>bytesBefore y.key x.key=false)∧w'.ownsRow base 167 4 (.slice A n c) n (l'.flatMap htE)∧(∀ B,B≤base→Below B w w'):=by
 have hlen:l.length=n:=by
  have h1:=ho.1
  rw [Yz htL] at h1
  omega
 rcases ho.2 with ⟨e0,h0⟩ | ⟨g,cap,cur,e0,hb,hg,hr⟩
 ·injection e0 with e1 e2 e3
  subst e1 e2 e3
  refine (AnyF.slices_SortFunc_none sortHt none 0 _ w).mono ?_
  rintro e w' ⟨rfl,rfl⟩
  refine ⟨rfl,l,List.Perm.refl _,?_,ho,fun B _=>Below.refl _ _⟩
  have:l=[]:=List.eq_nil_of_length_eq_zero (by omega)
  subst this
  exact List.Pairwise.nil
 ·injection e0 with e1 e2 e3
  subst e1 e3
  subst hlen
  have hH:=Zrd ho
  have hlt:g < w.heap.size:=(Array.getElem?_eq_some_iff.1 hg).1
  have hcon:=AnyQ.slices_SortFunc sortHt 4 agg35 size35 htE htL Zlh cfH swoH 209 #[] g 0 c l.toArray w (enters_of Tryz.func209 (by kernel_rfl) rfl) (fun _ _ _ _ x y=>Zli x y _) hH hlt (by simpa using hn)
  refine hcon.mono ?_
  rintro e w' ⟨rfl,d',m,os,hp,hs,rfl⟩
  have hp':=Ztm hp
  have hsz:d'.size=l.length:=by have:=hp.1;simpa using this
  have hs':=Zn5 (d:=d') (by rw [hsz];simpa using hs)
  refine ⟨rfl,d'.toList,by simpa using hp',hs',?_,fun B hB=>?_⟩
  ·unfold sortWorldK putRowK
   have hf:=Zhe d'.toList
   rw [Array.toArray_toList] at hf
   rw [hf]
   exact Zd (Zn4 ho (by rw [Yz htL,Yz htL];simp [hsz])) (Zhf _ _)
  ·unfold sortWorldK putRowK
   exact Below.trans (Lib.below_putRow (Below.refl B w) (Nat.le_trans hB hb)) ((Zhf _ _).mono (by simp [putRow,mapBlock,Sort.ahead];omega))
end Go.Proofs.YtkelafkbmnjpeaaGreat
namespace Go.Proofs.YtkelafkbmnjpeaaGreat
open Go.RowKit
def OffR (n₀:Nat) (R:Nat→Prop) (A B:World):Prop:=Zc (fun k=>n₀≤k∧¬ R k) A B
def Zd7 {α:Type} (P:Program) (n:Nat) (g:Nat) (lb:Array Value) (encs:α→Array Value) (Gd:List α→α→Prop) (Dead:Nat→Prop) (S:List α→Prop) (w:World):Prop :=
 ∀ (l:Nat) (J Jx:List α→(Nat→Prop)→World→Prop) (W:World) (R0:Nat→Prop),Grows w W→(∀ k,R0 k→¬ Dead k) →
  (∀ s R A,J s R A→∀ k,R k→k < A.heap.size) →
  (∀ s R A B,J s R A→OffR W.heap.size R A B→J s R B)→(∀ s R A B,Jx s R A→OffR W.heap.size R A B→Jx s R B) →
  (∀ pre R x W1,J pre R W1→Gd pre x→YieldAt Fence.wide n P l (encs x) W1 fun e W' =>
    ∃ R',(∀ k,R' k→R k∨W1.heap.size≤k)∧Zc R W1 W'∧((e=.returned (.bool true)∧J (pre++[x]) R' W')∨(e=.returned (.bool false)∧Jx (pre++[x]) R' W'))) →
  J [] R0 W →
  CallsIn Fence.wide n P g (#[.func (.yield l) #[] #[]]++lb) W fun e W'=>(∃ v,e=.returned v)∧((∃ xs R,S xs∧J xs R W')∨(∃ pre R,Jx pre R W'))
def leftR {α:Type} (R:Nat→Prop) (N:Nat) (I Ix:List α→(Nat→Prop)→World→Prop) (xs:List α) (W:World):Exit→Act→World→Prop
 | .normal,_,W'=>∃ R',(∀ k,R' k→R k∨N≤k)∧Zc (fun k=>R k∨N≤k) W W'∧I xs R' W'
 | .ret,_,W'=>∃ R',(∀ k,R' k→R k∨N≤k)∧Zc (fun k=>R k∨N≤k) W W'∧Ix xs R' W'
 | _,_,_=>False
theorem Zhg {α:Type} {P:Program} {n:Nat} {g:Operand} {ps:Array Tmp} {assign body:Code} {Q:Exit→Act→World→Prop} {a:Act} {w:World}
 {gf:Nat} {lb:Array Value} (hg:a.eval g=.func (.func gf) #[] lb) (eg:∀ args w,(callFunc gf args).run P w=.ok (.enter gf args) w)
 {encs:α→Array Value} {Gd:List α→α→Prop} {Dead:Nat→Prop} {S:List α→Prop} (hseq:Zd7 P (n - 1) gf lb encs Gd Dead S w) (hps:∀ x,(encs x).size=ps.size)
 (R0:Nat→Prop) (hdead:∀ k,Dead k→k < w.heap.size∧¬ R0 k)
 (I Ix:List α→(Nat→Prop)→World→Prop) (hlt:∀ s R A,I s R A→∀ k,R k→k < A.heap.size)
 (hI:∀ s R A B,I s R A→OffR w.heap.size R A B→I s R B) (hIx:∀ s R A B,Ix s R A→OffR w.heap.size R A B→Ix s R B) (h0:I [] R0 w)
 (hround:∀ (l:Nat) (pre:List α) (R:Nat→Prop) (x:α) (W:World),w.heap.size+1 < W.heap.size→I pre R W→Gd pre x →
   assign.wpIn (Fence.wide.inRound l) (n - 1) P (Exit.then (fun a₁ Wa=>Grows W Wa∧∀ Wb,Zc (fun k=>k=w.heap.size+1) Wa Wb→I pre R Wb →
    body.wpIn (Fence.wide.inRound l) (n - 1) P (leftR R W.heap.size I Ix (pre++[x]) Wb) a₁ Wb) (fun _ _ _=>False)) { tmps:=(ps.zip (encs x)).foldl (fun t (p,v)=>t.setIfInBounds p v) a.tmps,defers:=[] } W)
 (hdone:∀ (D:Nat) (xs:List α) (R:Nat→Prop) (W:World),w.heap.size≤D→¬ R D→S xs→I xs R W→W.heap[D]?=some (.deferred (some []))→Q .normal { a with defers:={ target:=.collected D,args:=#[] } :: a.defers } W)
 (hstop:∀ (D:Nat) (pre:List α) (R:Nat→Prop) (W:World),w.heap.size≤D→¬ R D→Ix pre R W→W.heap[D]?=some (.deferred (some []))→Code.ret.wpIn Fence.wide n P Q { a with defers:={ target:=.collected D,args:=#[] } :: a.defers } W) :
 (Code.rangeFunc g ps assign body).wpIn Fence.wide n P Q a w:=by
 refine wpIn_rangeFunc fun fn _=>?_
 rw [show Fence.wide.round=none from rfl]
 obtain ⟨rec,hrec⟩:∃ rec:LoopState→Option Code→Loop,rec=fun st pe=>{ state:=st,pending:=pe,fn,tmps:=a.tmps,params:=ps,assign,body,defers:=w.heap.size }:=⟨_,rfl⟩
 have hrun:=run_enterLoop_outer (P:=P) (w:=w) fn a.tmps ps assign body
 rw [show ({ state:=.ready,pending:=none,fn,tmps:=a.tmps,params:=ps,assign,body,defers:=w.heap.size }:Loop)=rec .ready none by rw [hrec]] at hrun
 have hD0:((w.alloc (.deferred (some []))).alloc (.loop (rec .ready none))).heap[w.heap.size]?=some (.deferred (some [])):=(Below.heap_alloc _ _ _ (by simp)).trans (World.alloc_heap_new w _)
 have hL0:((w.alloc (.deferred (some []))).alloc (.loop (rec .ready none))).heap[w.heap.size+1]?=some (.loop (rec .ready none)):=by
  have:=World.alloc_heap_new (w.alloc (.deferred (some []))) (.loop (rec .ready none));rwa [World.size_alloc] at this
 have hG0:Grows w ((w.alloc (.deferred (some []))).alloc (.loop (rec .ready none))):=((Below.refl _ w).alloc (Nat.le_refl _) _).alloc (by simp) _
 generalize (w.alloc (.deferred (some []))).alloc (.loop (rec .ready none))=V at *
 have hVs:w.heap.size+1 < V.heap.size:=(Array.getElem?_eq_some_iff.1 hL0).1
 refine ⟨w.heap.size+1,_,V,{ target:=.fn (.func gf) lb,args:=#[.func (.yield (w.heap.size+1)) #[] #[]] },V,gf,#[.func (.yield (w.heap.size+1)) #[] #[]]++lb,V,hrun,?_,fun _ _=>trivial,?_,(fun h=>by cases h),?_⟩
 ·simp only [resolve,hg]
  simp [go_sem]
 ·simp [invoke,go_sem,eg]
 have hR0:∀ k,R0 k→k < w.heap.size:=hlt _ _ _ h0
 -- what the rounds own: the body's own, the loop's record, the block for deferred calls
 refine (hseq (w.heap.size+1)
  (fun s R A=>∃ R1,(∀ k,R k↔R1 k∨k=w.heap.size∨k=w.heap.size+1)∧¬ R1 w.heap.size∧¬ R1 (w.heap.size+1)∧I s R1 A∧A.heap[w.heap.size+1]?=some (.loop (rec .ready none))∧A.heap[w.heap.size]?=some (.deferred (some [])))
  (fun s R A=>∃ R1,(∀ k,R k↔R1 k∨k=w.heap.size∨k=w.heap.size+1)∧¬ R1 w.heap.size∧¬ R1 (w.heap.size+1)∧Ix s R1 A∧A.heap[w.heap.size+1]?=some (.loop (rec .done (some .ret)))∧A.heap[w.heap.size]?=some (.deferred (some [])))
  V (fun k=>R0 k∨k=w.heap.size∨k=w.heap.size+1) hG0 ?_ ?_ ?_ ?_ ?_ ⟨R0,fun k=>Iff.rfl,fun h=>by have:=hR0 _ h;omega,fun h=>by have:=hR0 _ h;omega,hI _ _ _ _ h0 (Zc.grows hG0),hL0,hD0⟩).mono ?_
 ·rintro k (h | h | h) hd
  ·exact (hdead k hd).2 h
  ·have:=(hdead k hd).1;omega
  ·have:=(hdead k hd).1;omega
 ·rintro s R A ⟨R1,h1,_,_,h2,h3,h4⟩ k hk
  rcases (h1 k).1 hk with h | rfl | rfl
  ·exact hlt _ _ _ h2 k h
  ·exact (Array.getElem?_eq_some_iff.1 h4).1
  ·exact (Array.getElem?_eq_some_iff.1 h3).1
 ·rintro s R A B ⟨R1,h1,a1,a2,h2,h3,h4⟩ hs
  refine ⟨R1,h1,a1,a2,hI _ _ _ _ h2 (Zc.wider hs fun k _ hk=>⟨by omega,fun h=>hk.2 ((h1 k).2 (.inl h))⟩),?_,?_⟩
  ·exact (Zc.same hs _ (Array.getElem?_eq_some_iff.1 h3).1 fun h=>h.2 ((h1 _).2 (.inr (.inr rfl)))).trans h3
  ·exact (Zc.same hs _ (Array.getElem?_eq_some_iff.1 h4).1 fun h=>h.2 ((h1 _).2 (.inr (.inl rfl)))).trans h4
 ·rintro s R A B ⟨R1,h1,a1,a2,h2,h3,h4⟩ hs
  refine ⟨R1,h1,a1,a2,hIx _ _ _ _ h2 (Zc.wider hs fun k _ hk=>⟨by omega,fun h=>hk.2 ((h1 k).2 (.inl h))⟩),?_,?_⟩
  ·exact (Zc.same hs _ (Array.getElem?_eq_some_iff.1 h3).1 fun h=>h.2 ((h1 _).2 (.inr (.inr rfl)))).trans h3
  ·exact (Zc.same hs _ (Array.getElem?_eq_some_iff.1 h4).1 fun h=>h.2 ((h1 _).2 (.inr (.inl rfl)))).trans h4
 ·rintro pre R x W ⟨R1,h1,a1,a2,hi,hl,hd⟩ hgd
  have hsz:w.heap.size+1 < W.heap.size:=(Array.getElem?_eq_some_iff.1 hl).1
  have hy:=run_yield (P:=P) (args:=encs x) hl (by rw [hrec];exact hps x)
  rw [hrec] at hy
  refine ⟨fn,_,assign,body,hy,roundIn_of_wpIn trivial (wpIn_mono (hround _ pre R1 x W hsz hi hgd) ?_)⟩
  intro e a₁ Wa he
  cases e <;> first | exact he.elim | skip
  obtain ⟨hga,hbody⟩:=he
  have hl2:=(hga.block _ (Array.getElem?_eq_some_iff.1 hl).1).trans hl
  have hd2:=(hga.block _ (Array.getElem?_eq_some_iff.1 hd).1).trans hd
  refine ⟨_,run_beginRound hl2 (by rw [hrec]),?_⟩
  have hsz2:w.heap.size+1 < Wa.heap.size:=(Array.getElem?_eq_some_iff.1 hl2).1
  have hl3:(Wa.putObj (w.heap.size+1) (.loop { rec .ready none with state:=.busy })).heap[w.heap.size+1]?=some (.loop { rec .ready none with state:=.busy }):=World.putObj_heap_same hsz2
  have hd3:(Wa.putObj (w.heap.size+1) (.loop { rec .ready none with state:=.busy })).heap[w.heap.size]?=some (.deferred (some [])):=(World.putObj_heap_other (by omega)).trans hd2
  have put:∀ (A:World) (o:Obj),Zc (fun k=>k=w.heap.size+1) A (A.putObj (w.heap.size+1) o):=fun A o=>⟨rfl,rfl,rfl,by simp,fun k _ hk=>World.putObj_heap_other hk⟩
  have hsp:=put Wa (.loop { rec .ready none with state:=.busy })
  generalize Wa.putObj (w.heap.size+1) (.loop { rec .ready none with state:=.busy })=Wb at *
  have hib:I pre R1 Wb:=hI _ _ _ _ (hI _ _ _ _ hi (Zc.grows hga)) (Zc.wider hsp fun k _ hk=>by subst hk;exact ⟨by omega,a2⟩)
  refine wpIn_mono (hbody _ hsp hib) ?_
  have fin:∀ (jump:Option Code) (W':World),Zc (fun k=>R1 k∨W.heap.size≤k) Wb W' →
   (Instr.endRound (w.heap.size+1) jump).run P W'=.ok (.bool jump.isNone) (W'.putObj (w.heap.size+1) (.loop (rec (if jump.isNone then .ready else .done) jump))) ∧
   Zc R W (W'.putObj (w.heap.size+1) (.loop (rec (if jump.isNone then .ready else .done) jump))) ∧
   (W'.putObj (w.heap.size+1) (.loop (rec (if jump.isNone then .ready else .done) jump))).heap[w.heap.size+1]?=some (.loop (rec (if jump.isNone then .ready else .done) jump)) ∧
   (W'.putObj (w.heap.size+1) (.loop (rec (if jump.isNone then .ready else .done) jump))).heap[w.heap.size]?=some (.deferred (some [])):=fun jump W' hs=>by
   have k1:=(hs.same _ (Array.getElem?_eq_some_iff.1 hl3).1 (fun h=>by
    rcases h with h | h
    ·exact a2 h
    ·omega)).trans hl3
   have k2:=(hs.same _ (Array.getElem?_eq_some_iff.1 hd3).1 (fun h=>by
    rcases h with h | h
    ·exact a1 h
    ·omega)).trans hd3
   have hr:=run_endRound (P:=P) jump k1
   rw [hrec] at hr k1 ⊢
   refine ⟨hr,?_,World.putObj_heap_same (Array.getElem?_eq_some_iff.1 k1).1,(World.putObj_heap_other (by omega)).trans k2⟩
   have c1:Zc (fun k=>R k∨W.heap.size≤k) W Wa:=Zc.grows hga
   have c2:Zc (fun k=>R k∨W.heap.size≤k) Wa Wb:=Zc.wider hsp fun k _ hk=>.inl ((h1 k).2 (.inr (.inr hk)))
   have c3:Zc (fun k=>R k∨W.heap.size≤k) Wb W':=Zc.wider hs fun k _ hk=>hk.imp (fun h=>(h1 k).2 (.inl h)) id
   have c4:Zc (fun k=>R k∨W.heap.size≤k) W' (W'.putObj (w.heap.size+1) (.loop ((fun st pe=>{ state:=st,pending:=pe,fn,tmps:=a.tmps,params:=ps,assign,body,defers:=w.heap.size }:LoopState→Option Code→Loop) (if jump.isNone then .ready else .done) jump))):=Zc.wider (put _ _) fun k _ hk=>.inl ((h1 k).2 (.inr (.inr hk)))
   exact Zc.wider (c1.trans (c2.trans (c3.trans c4))) fun k hk h=>h.elim id fun h=>by omega
  have sub:∀ {R':Nat→Prop},(∀ k,R' k→R1 k∨W.heap.size≤k)→(∀ k,(R' k∨k=w.heap.size∨k=w.heap.size+1)→R k∨W.heap.size≤k)∧¬ R' w.heap.size∧¬ R' (w.heap.size+1):=fun hs=>by
   refine ⟨fun k hk=>?_,fun h=>?_,fun h=>?_⟩
   ·rcases hk with h | h | h
    ·exact (hs k h).imp (fun h=>(h1 k).2 (.inl h)) id
    ·exact .inl ((h1 k).2 (.inr (.inl h)))
    ·exact .inl ((h1 k).2 (.inr (.inr h)))
   ·rcases hs _ h with h | h
    ·exact a1 h
    ·omega
   ·rcases hs _ h with h | h
    ·exact a2 h
    ·omega
  intro e a₂ W' hp
  cases e <;> first | exact hp.elim | skip
  ·obtain ⟨R',hr',hs,hi'⟩:=hp
   obtain ⟨hr,hc,k1,k2⟩:=fin none W' hs
   obtain ⟨b1,b2,b3⟩:=sub hr'
   refine ⟨_,_,hr,fun k=>R' k∨k=w.heap.size∨k=w.heap.size+1,b1,hc,.inl ⟨rfl,R',fun k=>Iff.rfl,b2,b3,hI _ _ _ _ hi' (Zc.wider (put _ _) fun k _ hk=>by subst hk;exact ⟨by omega,b3⟩),k1,k2⟩⟩
  ·obtain ⟨R',hr',hs,hi'⟩:=hp
   obtain ⟨hr,hc,k1,k2⟩:=fin (some .ret) W' hs
   obtain ⟨b1,b2,b3⟩:=sub hr'
   refine ⟨_,_,hr,fun k=>R' k∨k=w.heap.size∨k=w.heap.size+1,b1,hc,.inr ⟨rfl,R',fun k=>Iff.rfl,b2,b3,hIx _ _ _ _ hi' (Zc.wider (put _ _) fun k _ hk=>by subst hk;exact ⟨by omega,b3⟩),k1,k2⟩⟩
 ·have put:∀ (A:World) (o:Obj),Zc (fun k=>k=w.heap.size+1) A (A.putObj (w.heap.size+1) o):=fun A o=>⟨rfl,rfl,rfl,by simp,fun k _ hk=>World.putObj_heap_other hk⟩
  rintro e W2 ⟨⟨v,rfl⟩,(⟨xs,R,hS,R1,h1,a1,a2,hi,hl,hd⟩ | ⟨pre,R,R1,h1,a1,a2,hi,hl,hd⟩)⟩
  ·have hr:(Instr.endLoop (w.heap.size+1)).run P W2=.ok none (W2.putObj (w.heap.size+1) (.loop { rec .ready none with state:=.exhausted })):=by
    have hr:=run_endLoop (P:=P) hl (by rw [hrec];simp)
    rw [hrec] at hr ⊢
    exact hr
   exact ⟨none,_,hr,hdone _ xs R1 _ (Nat.le_refl _) a1 hS (hI _ _ _ _ hi (Zc.wider (put _ _) fun k _ hk=>by subst hk;exact ⟨by omega,a2⟩)) ((World.putObj_heap_other (by omega)).trans hd)⟩
  ·have hr:(Instr.endLoop (w.heap.size+1)).run P W2=.ok (some .ret) (W2.putObj (w.heap.size+1) (.loop { rec .done (some .ret) with state:=.exhausted })):=by
    have hr:=run_endLoop (P:=P) hl (by rw [hrec];simp)
    rw [hrec] at hr ⊢
    exact hr
   exact ⟨some .ret,_,hr,hstop _ pre R1 _ (Nat.le_refl _) a1 (hIx _ _ _ _ hi (Zc.wider (put _ _) fun k _ hk=>by subst hk;exact ⟨by omega,a2⟩)) ((World.putObj_heap_other (by omega)).trans hd)⟩
end Go.Proofs.YtkelafkbmnjpeaaGreat
