/-
  Texts that the statements lean on, one behind the other.
-/
import Derived.Test.YtkelafkbmnjpeaaGreatMG30
import Derived.Test.YtkelafkbmnjpeaaGreatAll
import Derived.Test.YtkelafkbmnjpeaaGreatMG22
import Derived.Test.YtkelafkbmnjpeaaGreatMG10
import Derived.Test.YtkelafkbmnjpeaaGreatMG21
import Derived.Test.YtkelafkbmnjpeaaGreatMG28
import Derived.Test.YtkelafkbmnjpeaaGreatMG31
import Derived.Test.YtkelafkbmnjpeaaGreatSgAll
import Derived.Test.YtkelafkbmnjpeaaGreatMG27
set_option linter.unusedSimpArgs false
set_option linter.unusedVariables false
set_option maxHeartbeats 8000000
set_option maxRecDepth 100000
namespace Go.Proofs.YtkelafkbmnjpeaaGreat
open Go.Lib (hid)
open Go.RowKit
attribute [local irreducible] wpF
def Zrf (W:World) (t:TypeId) (cs:Array Value):Fact Grows:=⟨Nat,0,fun g=>.pointer (some ⟨g,0,none⟩),fun g w=>W.heap.size≤g∧Whole w g t cs,fun _ _ _ h g=>⟨h.1,Grows.whole g h.2⟩⟩
def Zfw (W:World) (l:List Ht):Fact Grows:=⟨Option Addr×Nat,(none,0),fun p=>.slice p.1 l.length p.2,fun p w=>w.ownsRow W.heap.size 167 4 (.slice p.1 l.length p.2) l.length (l.flatMap htE),fun _ _ _ h g=>Zd h g⟩
section
variable {P:Program} {ops:Array Oper} {W:World} {Q:Act→World→Prop} {o:Oper} {rest:List Oper} {fs:List (Fact Grows)} {ks:Known} {a:Act}
theorem Ztn {F:Fact Grows} (f:FuncId) (args:Array Value) (hw:Region.wanted o (yielded ops a.tmps)=true) (h1:∀ w,Grows W w→(execOp a.eval o).run P w=.ok (.enter f args) w)
 (hc:∀ w,Grows W w→ks.for (o.looksAt ops) w→Calls P f args w fun e w'=>Grows w w'∧∃ x,e=.returned (F.val x)∧F.R x w') (h2:∀ x,wpF P ops Grows W Q rest fs ((o.dst,F.R x) :: ks) (a.put o.dst (F.val x))):wpF P ops Grows W Q (o :: rest) (F :: fs) ks a:=by
 unfold wpF fStep
 rw [if_pos hw]
 refine ⟨fun w hW hk=>?_,h2⟩
 unfold gives
 rw [h1 w hW]
 exact hc w hW hk
theorem Zvn (l:List Ht) (A:Option Addr) (c:Nat) (hw:Region.wanted o (yielded ops a.tmps)=true) (h1:∀ w,Grows W w→ks.for (o.looksAt ops) w→(execOp a.eval o).run P w=.ok (.value (.slice A l.length c)) w∧w.ownsRow W.heap.size 167 4 (.slice A l.length c) l.length (l.flatMap htE))
 (h2:∀ (A:Option Addr) (c:Nat),wpF P ops Grows W Q rest fs ((o.dst,fun w=>w.ownsRow W.heap.size 167 4 (.slice A l.length c) l.length (l.flatMap htE)) :: ks) (a.put o.dst (.slice A l.length c))) :
 wpF P ops Grows W Q (o :: rest) (Zfw W l :: fs) ks a:=by
 unfold wpF fStep
 rw [if_pos hw]
 refine ⟨fun w hW hk=>?_,fun x=>h2 x.1 x.2⟩
 unfold gives
 rw [(h1 w hW hk).1]
 exact ⟨Grows.refl w,(A,c),rfl,(h1 w hW hk).2⟩
theorem f_ptr (t:TypeId) (cs:Array Value) (hw:Region.wanted o (yielded ops a.tmps)=true) (h1:∀ w,Grows W w→(execOp a.eval o).run P w=.ok (.value (.pointer (some ⟨w.heap.size,0,none⟩))) (w.alloc (.cells cs t)))
 (h2:∀ g,wpF P ops Grows W Q rest fs ((o.dst,fun w=>W.heap.size≤g∧Whole w g t cs) :: ks) (a.put o.dst (.pointer (some ⟨g,0,none⟩)))) :
 wpF P ops Grows W Q (o :: rest) (Zrf W t cs :: fs) ks a:=by
 unfold wpF fStep
 rw [if_pos hw]
 refine ⟨fun w hW hk=>?_,h2⟩
 unfold gives
 rw [h1 w hW]
 exact ⟨Zb _ _,w.heap.size,rfl,hW.size,Whole.made _ _ _⟩
end
theorem Zlj {w:World} {base:Nat} {e t:TypeId} {size n g:Nat} {v:Value} {xs:List Value} {cs:Array Value} (h:w.ownsRow base e size v n xs) (h':Whole w g t cs) (hne:t≠e):∀ k,v.ownBlock=some k→k≠g:=fun k hk e'=>by
 rcases h.2 with ⟨rfl,_⟩ | ⟨g2,cap,cur,rfl,_,hh,_⟩
 ·simp [Value.ownBlock] at hk
 ·simp [Value.ownBlock] at hk
  subst hk e'
  have:=(show w.heap[g2]?=some (.cells cur e (0,0)) from hh).symm.trans h'
  injection this with this
  injection this with _ this
  exact hne this.symm
theorem Zj8 {w:World} {b:Nat} {A:Option Addr} {c:Nat} {hs:List Hd} {ts:List It} (ho:w.ownsRow b 212 3 (.slice A ts.length c) ts.length (itCells ts hs)) (hb:Jj w b hs ts):Items w A ts.length c ts :=
 Items.owned hb.1.symm rfl ho fun i h t hh ht=>Sl.owned (hb.2 i h t hh ht)
theorem Items.first {w:World} {A:Option Addr} {n c:Nat} {ts:List It} (h:Items w A n c ts) {k:Nat} (hk:k≤n):Items w A k c (ts.take k):=by
 obtain ⟨h1,h2,h3,hs,hl,hr,hq⟩:=h
 have e:itCells (ts.take k) (hs.take k)=(itCells ts hs).take (3*k):=by
  have h4:=itCells_append (ts.take k) (ts.drop k) (hs.take k) (hs.drop k) (by rw [List.length_take,List.length_take];omega)
  rw [List.take_append_drop,List.take_append_drop] at h4
  rw [h4]
  exact (List.take_left' (by rw [itCells_length _ _ (by rw [List.length_take,List.length_take];omega),List.length_take];omega)).symm
 refine ⟨by rw [List.length_take];omega,Nat.le_trans hk h2,h3,hs.take k,by rw [List.length_take];omega,?_,fun i x t hx ht=>hq i x t ?_ ?_⟩
 ·rw [e]
  refine ⟨by rw [List.length_take,hr.len];omega,fun j v hj=>?_⟩
  rw [List.getElem?_take] at hj
  split at hj
  ·exact hr.spot j v hj
  ·cases hj
 ·rw [List.getElem?_take] at hx
  split at hx
  ·exact hx
  ·cases hx
 ·rw [List.getElem?_take] at ht
  split at ht
  ·exact ht
  ·cases ht
theorem Zto (A:Option Addr) (n c:Nat) (bs:List UInt8) (size:Int) (w:World) (hs:Sl w A n c bs) (hn:n≤1000000) :
 Calls Tryz.prog 94 #[.slice A n c,.int .i64 size] w fun e w'=>∃ A' m c',e=.returned (.tuple #[.slice A' m c',.bool (getH bs size).isSome]) ∧
  m=((getH bs size).getD []).length∧w'.ownsRow w.heap.size 167 4 (.slice A' m c') m (((getH bs size).getD []).flatMap htE)∧Grows w w':=by
 have hlen:=hs.len
 have hcap:=hs.cap
 have HALL:=hid (Zp9 A n c bs w hs hn)
 have HS:=hid hs
 obtain ⟨o,ho⟩:∃ o,okS size=o:=⟨_,rfl⟩
 have HSZ:=hid (fun w'=>show Calls Tryz.prog 152 #[.int .i64 size] w' fun e w''=>e=.returned (.bool o)∧Grows w' w'' from ho ▸ Zcj size w')
 obtain ⟨G,hG⟩:∃ G,getH bs size=G:=⟨_,rfl⟩
 have hG0:=hG
 have hin:=@all_within bs
 have hcn:=@all_count bs
 unfold getH at hG0
 rw [ho] at hG0
 obtain ⟨⟨its,ps,en,er⟩,hal⟩:∃ r,allB bs 0=r:=⟨_,rfl⟩
 rw [hal] at HALL hG0 hin hcn
 dsimp only at HALL hG0 hin hcn
 rw [hG]
 have HGG:=hid (And.intro hG0 hin)
 have HCN:=hid hcn
 clear hG hG0 ho hal hin hs hcn
 have hnone:G=none→∀ (w':World),Grows w w'→∃ A' m c',Ending.returned (.tuple #[.slice none 0 0,.bool false])=Ending.returned (.tuple #[.slice A' m c',.bool G.isSome])∧m=(G.getD []).length∧w'.ownsRow w.heap.size 167 4 (.slice A' m c') m ((G.getD []).flatMap htE)∧Grows w w':=by
  rintro rfl w' hg
  exact ⟨none,0,0,rfl,rfl,World.ownsRow_nil _ _ _ _,hg⟩
 have HNONE:=hid hnone
 clear hnone
 go_enter Tryz.func94,Tryz.ntmps94
 go_wp2_with (fail)
 refine HALL.out.mono ?_
 rintro e w1 ⟨IA,ic,ihs,rfl,hown,hbod,hg1⟩
 have HIT:=hid (Zj8 hown hbod)
 have HG1:=hid (show Grows w w1 from hg1)
 clear hown hbod hg1
 obtain ⟨L,hL⟩:∃ L,its.length=L:=⟨_,rfl⟩
 rw [hL] at HIT HGG ⊢
 have HL:=hid hL
 clear hL
 go_wp2_with (fail)
 refine (HSZ.out w1).mono ?_
 rintro e w2 ⟨rfl,hg2⟩
 have HG2:=hid (HG1.out.trans hg2)
 have HIT2:=hid (Items.grow hg2 HIT.out)
 clear hg2 HIT
 cases o
 ·go_wp2_with (fail)
  refine bodyPost_ret (v:=.tuple #[.slice none 0 0,.bool false]) (by simp [results,Tryz.results94,go_sem]) rfl ?_
  exact HNONE.out (by rw [←HGG.out.1];rfl) _ HG2.out
 by_cases hps:ps=0
 rotate_left 1
 ·have k1:(ps:Int) > 0:=by omega
  have HX:=hid (show G=none by rw [←HGG.out.1];simp [hps])
  clear hps
  go_wp2_with (fail)
  refine bodyPost_ret (v:=.tuple #[.slice none 0 0,.bool false]) (by simp [results,Tryz.results94,go_sem]) rfl ?_
  exact HNONE.out HX.out _ HG2.out
 by_cases her:er=0
 rotate_left 1
 ·have k1:¬ (ps:Int) > 0:=by omega
  have k2:((er:Int) != 0)=true:=by rw [bne_iff_ne];omega
  have HX:=hid (show G=none by rw [←HGG.out.1];simp [her])
  clear her hps
  go_wp2_with (fail)
  refine bodyPost_ret (v:=.tuple #[.slice none 0 0,.bool false]) (by simp [results,Tryz.results94,go_sem]) rfl ?_
  exact HNONE.out HX.out _ HG2.out
 by_cases hl0:L=0
 ·subst hl0 her hps
  have HX:=hid (show G=none by rw [←HGG.out.1];simp)
  simp only [Int.natCast_zero]
  go_wp2_with (fail)
  refine bodyPost_ret (v:=.tuple #[.slice none 0 0,.bool false]) (by simp [results,Tryz.results94,go_sem]) rfl ?_
  exact HNONE.out HX.out _ HG2.out
 have k3:¬ (L:Int)=0:=by omega
 obtain ⟨K,hK⟩:∃ K,L=K+1:=⟨L - 1,by omega⟩
 have HIN:=hid (HGG.out.2 hps her)
 have hGE:=HGG.out.1
 rw [show L - 1=K by omega,if_pos (by simp [hl0,hps,her])] at hGE
 have hKL:K < L:=by omega
 have hKc:K≤ic:=by have:=HIT2.out.cap;omega
 have hLm:L≤1000000:=by
  have h1:=HL.out
  have h2:=HCN.out hps her
  omega
 have kw1:IntKind.i64.wrap ((L:Int) - 1)=(K:Int):=by rw [IntWalk.i64_in _ ⟨by omega,by omega⟩];omega
 have kw2:wrap64 ((L:Int) - 1)=(K:Int):=by rw [←IntWalk.i64_left];exact kw1
 have k4:(K:Int)≤(ic:Int):=by omega
 have k5:(0:Int)≤(K:Int):=by omega
 have k6:(K:Int) < (L:Int):=by omega
 obtain ⟨ad,SB,sm,sd,rfl,hc0,hc1,hc2,hsl⟩:=HIT2.out.spot hKL
 obtain ⟨⟨ta,tk,tb⟩,ht⟩:∃ t,its.getD K (0,0,[])=t:=⟨_,rfl⟩
 rw [ht] at hc0 hc1 hsl hGE
 dsimp only at hc0 hc1 hsl hGE
 have HTM:=hid (show (ta,tk,tb)∈its by
  rw [←ht,List.getD_eq_getElem?_getD,List.getElem?_eq_getElem (by rw [HL.out];exact hKL),Option.getD_some]
  exact List.getElem_mem _)
 obtain ⟨l,hl⟩:∃ l,(its.take K).map (fun t=>toldH t.2.2)=l:=⟨_,rfl⟩
 rw [hl] at hGE
 have hlK:l.length=K:=by rw [←hl,List.length_map,List.length_take,HL.out];omega
 have HTO:=hid (fun w' (hC:Grows w2 w')=>by
  have h1:=Ztk (some ad) K ic (its.take K) w' ((Items.grow hC HIT2.out).first (by omega)) (by omega) (fun t ht=>by have:=(HIN.out t (List.mem_of_mem_take ht)).2;omega)
  rw [hl] at h1
  exact h1)
 have HC:=hid (fun w' (hC:Grows w2 w')=>And.intro (hc0 w' hC) (And.intro (hc1 w' hC) (hc2 w' hC)))
 have HSB:=hid hsl
 have HGE:=hid hGE
 have HLK:=hid (And.intro hlK (And.intro hKL hKc))
 subst her hps
 simp only [Int.natCast_zero]
 clear hc0 hc1 hc2 hsl hGE hlK hl ht hK hl0 HGG hKL hKc
 go_wp2_with (fail)
 refine Zf (E:=Grows) 10 [Za (.slice (some ad) L ic),Za (.int .i64 (K:Int)),Za (.slice (some ad) K ic),Zfw w2 l,Za (.slice (some ad) L ic),Za (.int .i64 (K:Int)),Za (.pointer (some (ad.add (K*3)))),Za (.agg #[.int .i64 (ta:Nat),.int .i64 (tk:Nat),.slice SB sm sd]),Zrf w2 212 #[.int .i64 0,.int .i64 0,.slice none 0 0],Zfw w2 l] mixed (by kernel_rfl) (fun _ _ _=>Grows.trans) (Ze _) ?_
 simp only [List.take_succ_cons,List.take_zero,List.drop_succ_cons,List.drop_zero]
 iterate 3
  refine f_val _ (by rfl) ?_ ?_
  ·intro w' hC;clear hC;go_simp
  simp only [Pu]
 refine Ztn (F:=Zfw w2 l) 153 #[.slice (some ad) K ic] (by rfl) (by intro w' hC;clear hC;go_simp) ?_ ?_
 ·intro w' hC hks
  refine (HTO.out w' hC).mono ?_
  rintro e w'' ⟨A',c',rfl,h1,h2⟩
  refine ⟨h2,(A',c'),?_,?_⟩
  ·show _=Ending.returned (.slice A' l.length c')
   rw [HLK.out.1]
  ·show w''.ownsRow w2.heap.size _ 4 (.slice A' l.length c') l.length _
   rw [HLK.out.1]
   exact Zh h1 hC.size
 rintro ⟨HA,hcp⟩
 dsimp only [Zfw]
 simp only [Pu]
 iterate 3
  refine f_val _ (by rfl) ?_ ?_
  ·intro w' hC;clear hC;go_simp
  simp only [Pu]
 refine f_val _ (by rfl) ?_ ?_
 ·intro w' hC;obtain ⟨z0,z1,z2⟩:=HC.out w' hC;clear hC;go_simp
 simp only [Pu]
 refine f_ptr 212 #[.int .i64 0,.int .i64 0,.slice none 0 0] (by rfl) (by intro w' hC;clear hC;go_simp) ?_
 intro pg
 simp only [Pu]
 refine Zvn l HA hcp (by rfl) ?_ ?_
 ·intro w' hC hks
  refine ⟨?_,Known.get hks 1 rfl rfl⟩
  clear hC hks
  go_simp
 intro HB hcq
 simp only [Pu]
 refine Zs ?_
 intro w4 hC hks
 have HCw4:=hid hC
 have HPT:=hid (Known.at hks 1 rfl)
 have HHR:=hid (Known.at hks 0 rfl)
 clear hC hks
 have hm4:=HPT.out.2
 have q0:=hm4.free 0
 have q1:=hm4.free 1
 have q2:=hm4.free 2
 have y0:=hm4.cell 0
 have y1:=hm4.cell 1
 have y2:=hm4.cell 2
 simp only [Gt] at y0 y1 y2
 clear hm4
 go_wp2_with (fail)
 obtain ⟨w5,hw5⟩:∃ y,((w4.setCell ⟨pg,0,none⟩ (.int .i64 (ta:Nat))).setCell ⟨pg,1,none⟩ (.int .i64 (tk:Nat))).setCell ⟨pg,2,none⟩ (.slice SB sm sd)=y:=⟨_,rfl⟩
 have hgp:=HPT.out.1
 have hg5:Grows w2 w5:=by
  rw [←hw5]
  exact ((Below.setCell (p:=⟨pg,0,none⟩) HCw4.out hgp _).setCell (p:=⟨pg,1,none⟩) hgp _).setCell (p:=⟨pg,2,none⟩) hgp _
 have hm5:Whole w5 pg 212 #[.int .i64 (ta:Nat),.int .i64 (tk:Nat),.slice SB sm sd]:=by
  rw [←hw5]
  exact ((HPT.out.2.put 0 _).put 1 _).put 2 _
 have ho5:w5.ownsRow w2.heap.size 167 4 (.slice HB l.length hcq) l.length (l.flatMap htE):=by
  refine Zba HHR.out fun k hk=>?_
  have hne:=Zlj HHR.out HPT.out.2 (by decide) k hk
  rw [←hw5,Below.heap_setCell _ _ _ _ hne,Below.heap_setCell _ _ _ _ hne,Below.heap_setCell _ _ _ _ hne]
 rw [hw5]
 have hta:ta≤n:=by have:=(HIN.out _ HTM.out).1;omega
 have hin2:=HIN.out _ HTM.out
 obtain ⟨r,hr⟩:∃ r,Zai l=r:=⟨_,rfl⟩
 obtain ⟨eq,heq⟩:∃ b,decide (tb=lastB l.length size (bs.take ta))=b:=⟨_,rfl⟩
 have HRT:=hid (fun w' (hC:Grows w5 w')=>by
  have h1:=Zhd HB l.length hcq l w' (Rs.owned htL rfl (Zh (Zd ho5 hC) (Nat.zero_le _))) (by have:=HLK.out.1;have:=HLK.out.2;omega)
  rw [hr] at h1
  exact h1)
 have HLA:=hid (fun w' (hC:Grows w5 w')=>Zj6 (l.length:Int) size A ta c (bs.take ta) w' ((HS.out.grow (HG2.out.trans (hg5.trans hC))).first hta) (by unfold maxLen;omega))
 have HC5:=hid (fun w' (hC:Grows w5 w')=>And.intro ((hC.whole hm5).cell 0) ((hC.whole hm5).cell 2))
 have HSL:=hid (fun w' (hC:Grows w5 w')=>Sl.grow (hg5.trans hC) HSB.out)
 have HO5:=hid (And.intro ho5 (HG2.out.trans hg5))
 have HRE:=hid (And.intro hr heq)
 have HS2:=hid HG2.out.size
 have k7:(ta:Int)≤(c:Int):=by omega
 have k8:(0:Int)≤(ta:Int):=by omega
 have HGF:=hid (show (if (r&&eq)=true then some l else none)=G by
  rw [←hr,←heq,HLK.out.1]
  exact HGE.out)
 clear hgp hg5 hm5 ho5 hta hin2 hr heq q0 q1 q2 y0 y1 y2 hw5
 cases r
 ·replace HGF:=hid (show G=none by rw [←HGF.out];rfl)
  refine Zg (E:=Grows) [Za (.slice HB l.length hcq),Za (.bool false),Za (.bool true),Za (.bool true),Za undef,Za undef,Za undef,Za undef,Za undef,Za undef,Za undef,Za undef,Za undef,Za undef,Za undef,Za undef,Za (.bool true)] (by kernel_rfl) (by kernel_rfl) (fun _ _ _=>Grows.trans) (Ze _) ?_
  refine f_val _ (by rfl) ?_ ?_
  ·intro w' hC;clear hC;go_simp
  simp only [Pu]
  refine Zv 154 #[.slice HB l.length hcq] (.bool false) (by rfl) (by intro w' hC;clear hC;go_simp) ?_ ?_
  ·intro w' hC hks;exact (HRT.out w' hC).mono fun e w'' hh=>⟨hh.1,hh.2⟩
  simp only [Pu]
  iterate 2
   refine f_val _ (by rfl) ?_ ?_
   ·intro w' hC;clear hC;go_simp
   simp only [Pu]
  iterate 12
   refine Zbc (by rfl) ?_
   simp only [Pu]
  refine f_val _ (by rfl) ?_ ?_
  ·intro w' hC;clear hC;go_simp
  simp only [Pu]
  refine Zs ?_
  intro w6 hC hks
  have HCw6:=hid hC
  clear hC hks
  go_wp2_with (fail)
  refine bodyPost_ret (v:=.tuple #[.slice none 0 0,.bool false]) (by simp [results,Tryz.results94,go_sem]) rfl ?_
  exact HNONE.out HGF.out _ (HO5.out.2.trans HCw6.out)
 refine Zg (E:=Grows) [Za (.slice HB l.length hcq),Za (.bool true),Za (.bool false),Za (.bool false),Za (.pointer (some ⟨pg,2,none⟩)),Za (.slice SB sm sd),Za (.slice HB l.length hcq),Za (.int .i64 (l.length:Int)),Za (.int .i64 size),Za (.slice A n c),Za (.pointer (some ⟨pg,0,none⟩)),Za (.int .i64 (ta:Nat)),Za (.slice A ta c),Jq (lastB l.length size (bs.take ta)),Za (.bool eq),Za (.bool (!eq)),Za (.bool (!eq))] (by kernel_rfl) (by kernel_rfl) (fun _ _ _=>Grows.trans) (Ze _) ?_
 refine f_val _ (by rfl) ?_ ?_
 ·intro w' hC;clear hC;go_simp
 simp only [Pu]
 refine Zv 154 #[.slice HB l.length hcq] (.bool true) (by rfl) (by intro w' hC;clear hC;go_simp) ?_ ?_
 ·intro w' hC hks;exact (HRT.out w' hC).mono fun e w'' hh=>⟨hh.1,hh.2⟩
 simp only [Pu]
 iterate 3
  refine f_val _ (by rfl) ?_ ?_
  ·intro w' hC;clear hC;go_simp
  simp only [Pu]
 refine f_val _ (by rfl) ?_ ?_
 ·intro w' hC;obtain ⟨z0,z2⟩:=HC5.out w' hC;clear hC;go_simp
 simp only [Pu]
 iterate 5
  refine f_val _ (by rfl) ?_ ?_
  ·intro w' hC;clear hC;go_simp
  simp only [Pu]
 refine f_val _ (by rfl) ?_ ?_
 ·intro w' hC;obtain ⟨z0,z2⟩:=HC5.out w' hC;clear hC;go_simp
 simp only [Pu]
 refine f_val _ (by rfl) ?_ ?_
 ·intro w' hC;clear hC;go_simp
 simp only [Pu]
 refine f_new (lastB l.length size (bs.take ta)) 156 #[.int .i64 (l.length:Int),.int .i64 size,.slice A ta c] (by rfl) (by intro w' hC;clear hC;go_simp) ?_ ?_
 ·intro w' hC hks;exact (HLA.out w' hC).mono fun e w'' ⟨A',c',he,h1,h2⟩=>⟨A',13,c',he,Sl.owned h1,h2⟩
 intro LA lc
 simp only [Pu]
 refine Zv 155 #[.slice SB sm sd,.slice LA (lastB l.length size (bs.take ta)).length lc] (.bool eq) (by rfl) (by intro w' hC;clear hC;go_simp) ?_ ?_
 ·intro w' hC hks;rw [←HRE.out.2];exact (Zgc SB sm sd tb LA _ lc _ w' (HSL.out w' hC) (Known.get hks 0 rfl rfl)).mono fun e w'' hh=>⟨hh.1,hh.2⟩
 simp only [Pu]
 iterate 2
  refine f_val _ (by rfl) ?_ ?_
  ·intro w' hC;clear hC;go_simp
  simp only [Pu]
 refine Zs ?_
 intro w6 hC hks
 have HCw6:=hid hC
 clear hC hks
 cases eq
 ·replace HGF:=hid (show G=none by rw [←HGF.out];rfl)
  go_wp2_with (fail)
  refine bodyPost_ret (v:=.tuple #[.slice none 0 0,.bool false]) (by simp [results,Tryz.results94,go_sem]) rfl ?_
  exact HNONE.out HGF.out _ (HO5.out.2.trans HCw6.out)
 ·replace HGF:=hid (show some l=G by rw [←HGF.out];rfl)
  go_wp2_with (fail)
  refine bodyPost_ret (v:=.tuple #[.slice HB l.length hcq,.bool true]) (by simp [results,Tryz.results94,go_sem]) rfl ?_
  rw [←HGF.out]
  exact ⟨HB,l.length,hcq,rfl,rfl,Zh (Zd HO5.out.1 HCw6.out) HS2.out,HO5.out.2.trans HCw6.out⟩
end Go.Proofs.YtkelafkbmnjpeaaGreat
namespace Go.Proofs.YtkelafkbmnjpeaaGreat
open Go.RowKit
def foundL:List Rc→Nat→List Fn
 | [],_=>[]
 | r :: rs,a=>(a,(frS r).length,r) :: foundL rs (a+(frS r).length)
def Zax (rs:List Rc):List UInt8:=putL (rs.map putR)
theorem Zmt {r:Rc} (h:Zq r):Good (putR r):=Zid h
theorem Zfx {r:Rc} (h:Zq r):frS r=Z8 (putR r):=Ye (Zmt h)
def segB (n:Int) (rs:List Rc):List UInt8:=putL (Zy n :: rs.map putR)
theorem Zn6 (n:Int):Good (Zy n):=by unfold Good;rw [Yh];omega
theorem J9 (n:Int) (rs:List Rc):(segB n rs).length=13+(Zax rs).length:=by
 unfold segB Zax
 rw [putL,List.length_append,Ye (Zn6 n),Zl,Yh]
theorem Zrg (n:Int) (rs:List Rc) (r:Rc):segB n (rs++[r])=segB n rs++frS r:=by
 unfold segB
 rw [List.map_append,←List.cons_append,putL_append]
 rw [List.map_cons,List.map_nil]
 show _++(putB (putR r)++[])=_
 rw [List.append_nil]
 rfl
structure SgW (m:Dk) (U:Nat):Prop where
 well:Well m
 most:m.most=16777216
 used:m.used=(U:Int)
structure Sg (m:Dk) (n:Int) (f:Nat) (rs:List Rc):Prop where
 find:Dir.find (nmS n) m.names=some f
 bytes:(m.files f).bytes=segB n rs
 right:∀ r∈rs,Zq r
section
variable {m:Dk} {U:Nat} {n:Int} {f:Nat} {rs:List Rc}
end
theorem Zlk {x:Int} (h:x=-1):x < 0:=by omega
def A0:Dk:=Dk.new 16777216
def A1:Dk:=(makeP A0 1).1
def A2:Dk:=(makeP A1 2).1
end Go.Proofs.YtkelafkbmnjpeaaGreat
set_option maxHeartbeats 8000000
set_option maxRecDepth 100000
namespace Go.Proofs.YtkelafkbmnjpeaaGreat
open Go.Lib (hid)
open Go.RowKit Go.Maps Go.WideMaps
def fnT (B n:Nat) (x y:Int) (Fs:List Fn):Fact Grows:=⟨Option Addr×Nat×List (Fn×Fh),(none,0,[]),fun q=>.tuple #[.slice q.1 n q.2.1,.int .i64 x,.int .i64 y],fun q w=>FnOwn B w q.1 n q.2.1 q.2.2∧q.2.2.map (·.1)=Fs,fun _ _ _ h g=>⟨h.1.grow g,h.2⟩⟩
def fnO (B n:Nat) (Fs:List Fn):Fact Grows:=⟨Option Addr×Nat×List (Fn×Fh),(none,0,[]),fun q=>.slice q.1 n q.2.1,fun q w=>FnOwn B w q.1 n q.2.1 q.2.2∧q.2.2.map (·.1)=Fs,fun _ _ _ h g=>⟨h.1.grow g,h.2⟩⟩
def htO (B n:Nat) (hs:List Ht):Fact Grows:=⟨Option Addr×Nat,(none,0),fun q=>.slice q.1 n q.2,fun q w=>w.ownsRow B 167 4 (.slice q.1 n q.2) n (hs.flatMap htE),fun _ _ _ h g=>Zd h g⟩
section
variable {P:Program} {ops:Array Oper} {W:World} {Q:Act→World→Prop} {o:Oper} {rest:List Oper} {fs:List (Fact Grows)} {ks:Known} {a:Act}
theorem Zq8 {F:Fact Grows} (x:F.α) (hw:Region.wanted o (yielded ops a.tmps)=true) (h1:∀ w,Grows W w→ks.for (o.looksAt ops) w→(execOp a.eval o).run P w=.ok (.value (F.val x)) w∧F.R x w)
 (h2:∀ x,wpF P ops Grows W Q rest fs ((o.dst,F.R x) :: ks) (a.put o.dst (F.val x))):wpF P ops Grows W Q (o :: rest) (F :: fs) ks a:=by
 unfold wpF fStep
 rw [if_pos hw]
 refine ⟨fun w hW hk=>?_,h2⟩
 unfold gives
 rw [(h1 w hW hk).1]
 exact ⟨Grows.refl w,x,rfl,(h1 w hW hk).2⟩
end
/-! What is found, as hints are made of it. -/
def fdOf (p:Fn×Fh):Fd:=⟨p.1.1,p.1.2.1,p.1.2.2.kind,p.1.2.2.key,p.1.2.2.id,p.1.2.2.no,p.1.2.2.size,p.2.1,p.2.2⟩
theorem hofP_congr:∀ (l l':List Fd),l.map (fun f=>(Zbe f,toldF f))=l'.map (fun f=>(Zbe f,toldF f))→hofP l=hofP l':=by
 have key:∀ (l l':List Fd) (a:List Ht),l.map (fun f=>(Zbe f,toldF f))=l'.map (fun f=>(Zbe f,toldF f))→l.foldl (fun a f=>if toldF f=true then hput (Zbe f) a else a) a=l'.foldl (fun a f=>if toldF f=true then hput (Zbe f) a else a) a:=by
  intro l
  induction l with
  | nil=>intro l' a h;cases l' with | nil=>rfl | cons y ys=>cases h
  | cons x xs ih =>
    intro l' a h
    cases l' with
    | nil=>cases h
    | cons y ys =>
      rw [List.map_cons,List.map_cons] at h
      injection h with h1 h2
      injection h1 with h3 h4
      rw [List.foldl_cons,List.foldl_cons,h3,h4]
      exact ih ys _ h2
 exact fun l l' h=>key l l' [] h
theorem Zq9 (l:List (Fn×Fh)):hofP (l.map fdOf)=Zar (l.map (·.1)):=by
 unfold Zar
 refine hofP_congr _ _ ?_
 rw [List.map_map,List.map_map,List.map_map]
 rfl
theorem Zvl {b:Nat} {w:World} {A:Option Addr} {n c:Nat} {l:List (Fn×Fh)} (h:FnOwn b w A n c l):Fds w A n c (l.map fdOf):=by
 refine Rs.owned (base:=b) (e:=145) fdL (by rw [List.length_map];exact h.len) ?_
 have e:(l.map fdOf).flatMap fdE=l.flatMap fnE:=by
  rw [List.flatMap_map]
  rfl
 rw [e]
 exact h.own
section
variable {B d l n c T S:Nat} {w0 w:World} {out:Nat→Prop} {A:Option Addr} {L:Lg}
theorem LgAt.more {w':World} (h:LgAt B w0 w d l out A n c L) (hg:Grows w w'):LgAt B w0 w' d l (fun k=>out k∨(w.heap.size≤k∧k < w'.heap.size)) A n c L:=by
 have hl:=h.lt
 have hA:∀ ad,A=some ad→ad.block < w.heap.size:=fun ad e=>h.dk.lt (.inr (.inr ⟨ad,e,rfl⟩))
 obtain ⟨h1,h2,h3,h4,h5,h6⟩:=h
 refine ⟨(h1.more hg).less fun k hk=>?_,hg.whole h2,Zd h3 hg,h4,fun e=>e.elim h5 fun e=>by omega,fun ad e=>⟨(h6 ad e).1,fun e2=>e2.elim (h6 ad e).2 fun e2=>by have:=hA ad e;omega⟩⟩
 rcases hk with (hk | hk) | hk | hk
 ·exact .inl (.inl hk)
 ·exact .inr hk
 ·exact .inl (.inr (.inl hk))
 ·exact .inl (.inr (.inr hk))
theorem Zdy (x:Int):(nmH x).length≤1000000:=by
 unfold nmH
 have:=Yw x
 unfold ofP
 split
 ·simp
 ·rw [if_neg (by decide),if_pos rfl,List.length_cons,Yi]
  omega
structure CloW (out:Nat→Prop) (w:World) (l b1 b2:Nat) (la:Int):Prop where
 x1:Whole w b1 29 #[.pointer (some ⟨l,0,none⟩)]
 x2:Whole w b2 3 #[.int .i64 la]
 o1:out b1
 o2:out b2
theorem CloW.stays {b1 b2:Nat} {la:Int} {w':World} (h:CloW out w l b1 b2 la) (hs:Stays B out w w'):CloW out w' l b1 b2 la:=⟨Zo hs h.x1 h.o1,Zo hs h.x2 h.o2,h.o1,h.o2⟩
theorem Zti (la:Int) (hla:0≤la∧la≤99999999) (b1 b2:Nat) (w:World) (h:LgAt B w0 w d l out A n c L) (hc:CloW out w l b1 b2 la) (ok:LOk T S L.dk) (hT:T≤100000) (hS:S≤100000) {s:ByteArray} (hs:(⟨(nmH la).toArray⟩:ByteArray)=s) :
 Calls Tryz.prog 135 #[.string s,.pointer (some ⟨b1,0,none⟩),.pointer (some ⟨b2,0,none⟩)] w fun e w'=>e=.returned (.int .i64 (L.dk.append (nmH la) (hintB L.dk la)).2)∧LgAt B w0 w' d l out A n c (L.on (L.dk.append (nmH la) (hintB L.dk la)).1)∧Stays B out w w':=by
 have hok:=ok.ok
 have hsz0:=ok.size hla
 have hcnt:=Zki L.dk la
 have hbl:=Zi1 L.dk la
 have HF:=hid (fun w' (hg:Grows w w')=>h.fields hg)
 have HX:=hid (fun w' (hg:Grows w w')=>And.intro ((hg.whole hc.x1).cell 0) ((hg.whole hc.x2).cell 0))
 have hall:=fun w' (hg:Grows w w')=>Zni w' la (by omega) (h.grow hg).dk hok (by omega)
 obtain ⟨⟨sv,sb⟩,hsz⟩:∃ q,L.dk.size (nmS la)=q:=⟨_,rfl⟩
 have hsize:=fun w' (hg:Grows w w')=>Za8 w' la (h.grow hg).dk hsz
 unfold hintB at hbl ⊢
 rw [hsz] at hsz0 hcnt hbl ⊢
 dsimp only at hsz0 hcnt hbl ⊢
 obtain ⟨⟨Fs,p2,p3⟩,hP⟩:∃ q,Yv L.dk la=q:=⟨_,rfl⟩
 simp only [hP] at hall hcnt hbl ⊢
 obtain ⟨N,hN⟩:∃ N,Fs.length=N:=⟨_,rfl⟩
 obtain ⟨hs2,hhs⟩:∃ q,Zar Fs=q:=⟨_,rfl⟩
 rw [hhs] at hbl ⊢
 obtain ⟨M,hM⟩:∃ M,hs2.length=M:=⟨_,rfl⟩
 obtain ⟨bs,hbs⟩:∃ q,putH hs2 sv=q:=⟨_,rfl⟩
 rw [hbs] at hbl ⊢
 have HAL:=hid (show ∀ w',Grows w w'→Calls Tryz.prog 92 #[.pointer (some ⟨d,0,none⟩),.int .i64 la] w' fun e w''=>Grows w' w''∧∃ x:(fnT w.heap.size N p2 p3 Fs).α,e=.returned ((fnT w.heap.size N p2 p3 Fs).val x)∧(fnT w.heap.size N p2 p3 Fs).R x w'' from fun w' hg=>(hall w' hg).mono fun e w'' ⟨A',c',fl,he,ho,hm,hg2⟩=>by
  have hl:fl.length=N:=by rw [←hN,←hm,List.length_map]
  rw [hl] at he ho
  exact ⟨hg2,(A',c',fl),he,ho.low hg.size,hm⟩)
 have HOF:=hid (show ∀ w' A' c' fl,Grows w w'→(FnOwn w.heap.size w' A' N c' fl∧fl.map (·.1)=Fs)→Calls Tryz.prog 137 #[.slice A' N c'] w' fun e w''=>Grows w' w''∧∃ x:(htO w.heap.size M hs2).α,e=.returned ((htO w.heap.size M hs2).val x)∧(htO w.heap.size M hs2).R x w'' from fun w' A' c' fl hg hf=>(Ztj A' N c' (fl.map fdOf) w' (Zvl hf.1) (by omega)).mono fun e w'' hh=>by
  obtain ⟨A2,c2,he,ho,hg2⟩:=hh
  rw [Zq9,hf.2,hhs,hM] at he
  rw [Zq9,hf.2,hhs,hM] at ho
  exact ⟨hg2,(A2,c2),he,Zh ho hg.size⟩)
 have HPU:=hid (show ∀ w' A' c',Grows w w'→w'.ownsRow w.heap.size 167 4 (.slice A' M c') M (hs2.flatMap htE)→Calls Tryz.prog 136 #[.slice A' M c',.int .i64 sv] w' fun e w''=>∃ A2 m c2,e=.returned (.slice A2 m c2)∧w''.ownsRow w'.heap.size 5 1 (.slice A2 m c2) m (bs.map byteV)∧Below w'.heap.size w' w'' from fun w' A' c' hg ho=>(Ztl A' M c' hs2 sv w' (Rs.owned htL hM ho) (by
  have h1:=Zg8 ((Fs.map fd0))
  have h2:hs2.length≤Fs.length:=by rw [←hhs];unfold Zar;rw [List.length_map] at h1;exact h1
  omega) (by omega)).mono fun e w'' hh=>by
  obtain ⟨A2,m,c2,he,hm,ho2,hg2⟩:=hh
  rw [hbs] at ho2
  exact ⟨A2,m,c2,he,ho2,hg2⟩)
 obtain ⟨⟨m',er⟩,hq⟩:∃ q,L.dk.append (nmH la) bs=q:=⟨_,rfl⟩
 rw [hq]
 have HQ:=hid hq
 have HSZ:=hid hsize
 have HH:=hid (And.intro h (And.intro hok (And.intro hbs (show bs.length≤1000000∧T+2*S+4100≤1000000000 by omega))))
 have HS:=hid hs
 clear h hc ok hok hall hsize hsz hP hcnt hbl hsz0 hN hhs hM hbs hs hla hq
 go_enter Tryz.func135,Tryz.ntmps135
 go_wp2_with (fail)
 refine Zg (E:=Grows) [Za (.pointer (some ⟨l,0,none⟩)),Za (.pointer (some ⟨l,0,none⟩)),Za (.pointer (some ⟨l,0,none⟩)),Za (.pointer (some ⟨d,0,none⟩)),Za (.int .i64 la),fnT w.heap.size N p2 p3 Fs,fnT w.heap.size N p2 p3 Fs,fnO w.heap.size N Fs,Za (.int .i64 p2),Za (.int .i64 p3),fnO w.heap.size N Fs,Za (.int .i64 p2),Za (.int .i64 p3)] (by kernel_rfl) (by kernel_rfl) (fun _ _ _=>Grows.trans) (Ze _) ?_
 refine f_val _ (by rfl) ?_ ?_
 ·intro w' hC;obtain ⟨y1,y2⟩:=HX.out w' hC;clear hC;go_simp
 simp only [Pu]
 iterate 2
  refine f_val _ (by rfl) ?_ ?_
  ·intro w' hC;clear hC;go_simp
  simp only [Pu]
 refine f_val _ (by rfl) ?_ ?_
 ·intro w' hC;obtain ⟨z0,z1,z2,z3,z4⟩:=HF.out w' hC;clear hC;go_simp
 simp only [Pu]
 refine f_val _ (by rfl) ?_ ?_
 ·intro w' hC;obtain ⟨y1,y2⟩:=HX.out w' hC;clear hC;go_simp
 simp only [Pu]
 refine Zig (F:=fnT w.heap.size N p2 p3 Fs) 92 #[.pointer (some ⟨d,0,none⟩),.int .i64 la] (by rfl) (by intro w' hC;clear hC;go_simp) ?_ ?_
 ·intro w' hC hks;exact HAL.out w' hC
 rintro ⟨A1,c1,fl1⟩
 dsimp only [fnT]
 simp only [Pu]
 refine Zq8 (A1,c1,fl1) (by rfl) ?_ ?_
 ·intro w' hC hks;refine ⟨?_,Known.get hks 0 rfl rfl⟩;clear hC hks;dsimp only [fnT];go_simp
 rintro ⟨A1,c1,fl1⟩
 dsimp only [fnT]
 simp only [Pu]
 refine Zq8 (A1,c1,fl1) (by rfl) ?_ ?_
 ·intro w' hC hks;refine ⟨?_,Known.get hks 0 rfl rfl⟩;clear hC hks;dsimp only [fnO];go_simp
 rintro ⟨A1,c1,fl1⟩
 dsimp only [fnO]
 simp only [Pu]
 iterate 2
  refine f_val _ (by rfl) ?_ ?_
  ·intro w' hC;clear hC;go_simp
  simp only [Pu]
 refine Zq8 (A1,c1,fl1) (by rfl) ?_ ?_
 ·intro w' hC hks;refine ⟨?_,Known.get hks 0 rfl rfl⟩;clear hC hks;dsimp only [fnO];go_simp
 rintro ⟨A1,c1,fl1⟩
 dsimp only [fnO]
 simp only [Pu]
 iterate 2
  refine f_val _ (by rfl) ?_ ?_
  ·intro w' hC;clear hC;go_simp
  simp only [Pu]
 refine Zs ?_
 intro w2 hC hks
 have HCw2:=hid hC
 have HK:=hid (Known.at hks 0 rfl)
 clear hC hks
 have HK2:=hid (show FnOwn w.heap.size w2 A1 N c1 fl1∧fl1.map (·.1)=Fs from HK.out)
 clear HK
 go_wp2_with (fail)
 refine Zf (E:=Grows) 14 [Za (.pointer (some ⟨l,0,none⟩)),Za (.pointer (some ⟨l,0,none⟩)),Za (.pointer (some ⟨l,0,none⟩)),Za (.pointer (some ⟨d,0,none⟩)),Za (.string s),Za (.slice A1 N c1),htO w.heap.size M hs2,Za (.pointer (some ⟨l,0,none⟩)),Za (.pointer (some ⟨l,0,none⟩)),Za (.pointer (some ⟨l,0,none⟩)),Za (.pointer (some ⟨d,0,none⟩)),Za (.int .i64 la),Za (.int .i64 sv),Zbx w2 (bs)] mixed (by kernel_rfl) (fun _ _ _=>Grows.trans) (Ze _) ?_
 simp only [List.take_succ_cons,List.take_zero,List.drop_succ_cons,List.drop_zero]
 refine f_val _ (by rfl) ?_ ?_
 ·intro w' hC;obtain ⟨y1,y2⟩:=HX.out w' (Grows.trans HCw2.out hC);clear hC;go_simp
 simp only [Pu]
 iterate 2
  refine f_val _ (by rfl) ?_ ?_
  ·intro w' hC;clear hC;go_simp
  simp only [Pu]
 refine f_val _ (by rfl) ?_ ?_
 ·intro w' hC;obtain ⟨z0,z1,z2,z3,z4⟩:=HF.out w' (Grows.trans HCw2.out hC);clear hC;go_simp
 simp only [Pu]
 iterate 2
  refine f_val _ (by rfl) ?_ ?_
  ·intro w' hC;clear hC;go_simp
  simp only [Pu]
 refine Zig (F:=htO w.heap.size M hs2) 137 #[.slice A1 N c1] (by rfl) (by intro w' hC;clear hC;go_simp) ?_ ?_
 ·intro w' hC hks;exact HOF.out w' A1 c1 fl1 (Grows.trans HCw2.out hC) ⟨HK2.out.1.grow hC,HK2.out.2⟩
 rintro ⟨A3,c3⟩
 dsimp only [htO]
 simp only [Pu]
 refine f_val _ (by rfl) ?_ ?_
 ·intro w' hC;obtain ⟨y1,y2⟩:=HX.out w' (Grows.trans HCw2.out hC);clear hC;go_simp
 simp only [Pu]
 iterate 2
  refine f_val _ (by rfl) ?_ ?_
  ·intro w' hC;clear hC;go_simp
  simp only [Pu]
 refine f_val _ (by rfl) ?_ ?_
 ·intro w' hC;obtain ⟨z0,z1,z2,z3,z4⟩:=HF.out w' (Grows.trans HCw2.out hC);clear hC;go_simp
 simp only [Pu]
 refine f_val _ (by rfl) ?_ ?_
 ·intro w' hC;obtain ⟨y1,y2⟩:=HX.out w' (Grows.trans HCw2.out hC);clear hC;go_simp
 simp only [Pu]
 refine Zv 95 #[.pointer (some ⟨d,0,none⟩),.int .i64 la] (.int .i64 sv) (by rfl) (by intro w' hC;clear hC;go_simp) ?_ ?_
 ·intro w' hC hks;exact HSZ.out w' (Grows.trans HCw2.out hC)
 simp only [Pu]
 refine f_own (bs) 136 #[.slice A3 M c3,.int .i64 sv] (by rfl) (by intro w' hC;clear hC;go_simp) ?_ ?_
 ·intro w' hC hks;exact HPU.out w' A3 c3 (Grows.trans HCw2.out hC) (Known.get hks 0 rfl rfl)
 intro A4 c4
 simp only [Pu]
 refine Zs ?_
 intro w3 hC hks
 have HCw3:=hid hC
 have HR:=hid (Known.at hks 0 rfl)
 clear hC hks
 have hr:w3.ownsRow w2.heap.size 5 1 (.slice A4 bs.length c4) bs.length (bs.map byteV):=HR.out
 have hg3:Grows w w3:=Grows.trans HCw2.out HCw3.out
 have hoff:∀ ad,A4=some ad→w.heap.size≤ad.block∧ad.block < w3.heap.size:=fun ad e=>by
  have:=Zmq hr ad e
  have:=HCw2.out.size
  omega
 have hdop:=(HH.out.1.more hg3).dop (f:=130) (args:=#[.pointer (some ⟨d,0,none⟩),.string s,.slice A4 bs.length c4]) (v:=.returned (.int .i64 (L.dk.append (nmH la) bs).2)) (m':=(L.dk.append (nmH la) bs).1) fun out' ho hd=>by
  rw [←HS.out]
  exact Zau (nmH la) hd HH.out.2.1 HH.out.2.2.2.2 (Zdy la) (Sl.owned hr) (fun ad e _=>.inr (ho _ (.inl (.inr (hoff ad e))))) (by have:=HH.out.2.2.2.1;omega) rfl rfl
 rw [HQ.out] at hdop
 have HDO:=hid hdop
 have HG3:=hid hg3
 obtain ⟨bl,hbl⟩:∃ bl,bs.length=bl:=⟨_,rfl⟩
 rw [hbl] at HDO ⊢
 clear hr hg3 hoff hdop HR hbl
 go_wp2_with (fail)
 refine HDO.out.mono ?_
 rintro e w4 ⟨rfl,hd,hst⟩
 have HY:=hid (And.intro hd hst)
 clear hd hst
 go_wp2_with (fail)
 go_ret
 exact ⟨rfl,HY.out.1.less fun k hk=>.inl hk,(Stays.grows HG3.out).trans (Zt HY.out.2 fun k hk=>.inl hk)⟩
end
end Go.Proofs.YtkelafkbmnjpeaaGreat
