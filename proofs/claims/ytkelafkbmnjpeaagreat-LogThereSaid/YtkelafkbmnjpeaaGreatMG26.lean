/-
  Texts that the statements lean on, one behind the other.
-/
import Derived.Test.YtkelafkbmnjpeaaGreatMG24
import Derived.LoopTactic
import Derived.OwnWalk
import Derived.Test.YtkelafkbmnjpeaaGreatMnTold
import Derived.Test.YtkelafkbmnjpeaaGreatMG17
import Derived.Test.YtkelafkbmnjpeaaGreatMG10
import Derived.Test.YtkelafkbmnjpeaaGreatMG20
import Derived.Test.YtkelafkbmnjpeaaGreatMG19
set_option linter.unusedSimpArgs false
set_option linter.unusedVariables false
set_option maxHeartbeats 4000000
set_option maxRecDepth 100000
namespace Go.Proofs.YtkelafkbmnjpeaaGreat
open Go.Lib (hid)
open Go.RowKit
theorem Zqx {xs:List Int} {j:Nat} {x z:Int} (hx:xs[j]?=some x) (hz:upTo (-1) (xs.take j)=some z):upTo (-1) (xs.take (j+1))=if x≤z then none else some x:=by
 obtain ⟨hj,hx⟩:=List.getElem?_eq_some_iff.1 hx
 rw [List.take_succ_eq_append_getElem hj,hx,upTo_snoc,hz]
theorem Zqy {xs:List Int} {j:Nat} (h:upTo (-1) (xs.take j)=none):upTo (-1) xs=none:=by
 have:=upTo_append_none (xs.take j) (xs.drop j) (-1) h
 rwa [List.take_append_drop] at this
theorem Zlb {m:Mn} (h:upTo (-1) m.segs=none):Ya m=false:=by unfold Ya;rw [h];simp
theorem Zlc {m:Mn} (h:¬ m.segs.length≤1000):Ya m=false:=by unfold Ya;rw [decide_eq_false h];rfl
theorem Zld {m:Mn} {z:Int} (hl:m.segs.length≤1000) (h:upTo (-1) m.segs=some z):Ya m=decide (z < m.next∧m.next≤99999999):=by unfold Ya;rw [decide_eq_true hl,h];rfl
theorem Zdx (w:World) (A:Option Addr) (n c:Nat) (m:Mn) (h:MnIn w A n c m) :
 Calls Tryz.prog 158 #[.agg #[.slice A n c,.int .i64 m.next]] w fun e w'=>e=.returned (.bool (Ya m))∧Grows w w':=by
 have hwm:=Whole.made w 96 #[.slice A n c,.int .i64 m.next]
 have hgr:=Zb w (.cells #[.slice A n c,.int .i64 m.next] 96)
 obtain ⟨w1,hw1⟩:∃ x,w.alloc (.cells #[.slice A n c,.int .i64 m.next] 96)=x:=⟨_,rfl⟩
 have c0:=hwm.cell 0
 have c1:=hwm.cell 1
 simp only [Gt] at c0 c1
 rw [hw1] at c0 c1 hgr
 have HI:=hid (h.segs.grow hgr)
 have HL:=hid (show m.segs.length=n from h.segs.len)
 have HG:=hid hgr
 obtain ⟨b,hbb⟩:∃ b,Ya m=b:=⟨_,rfl⟩
 obtain ⟨nx,hnx⟩:∃ nx,m.next=nx:=⟨_,rfl⟩
 rw [hbb]
 rw [hnx] at c1 hw1 ⊢
 have HB:=hid (And.intro hbb hnx)
 clear hwm h hgr hbb hnx
 go_enter Tryz.func158,Tryz.ntmps158
 by_cases hn:n≤1000
 rotate_left 1
 ·have hn':(n:Int) > 1000:=by omega
  have hbf:b=false:=by rw [←HB.out.1];exact Zlc (by rw [HL.out];exact hn)
  subst hbf
  go_wp2_with (fail)
  go_ret
  exact ⟨rfl,HG.out⟩
 have hn':¬ ((n:Int) > 1000):=by omega
 go_wp2_with (fail)
 go_loop [3,13] (fun v i=>∃ (j:Nat) (z:Int),j≤n∧i=.int .i64 (j:Nat)∧v=.int .i64 z∧Hid (upTo (-1) (m.segs.take j)=some z)) (fun _ i=>n - (intOf i).toNat)
 case atStart=>exact ⟨0,-1,by omega,rfl,rfl,hid rfl⟩
 case round =>
  obtain ⟨j,z,hj,rfl,rfl,HU⟩:=hrel
  by_cases hlt:j < n
  ·have hlt':(j:Int) < (n:Int):=by omega
   have hj0:(0:Int)≤(j:Int):=by omega
   have e5:IntKind.i64.wrap ((j:Int)+1)=(j:Int)+1:=IntWalk.i64_in _ ⟨by omega,by omega⟩
   obtain ⟨ad,x,rfl,hc,hx,_⟩:=HI.out.get hlt
   have hnx:=Zqx hx HU.out
   by_cases hxz:x≤z
   ·rw [if_pos hxz] at hnx
    have hbf:b=false:=by rw [←HB.out.1];exact Zlb (Zqy hnx)
    subst hbf
    clear hnx hx
    go_wp2_with (fail)
    go_ret
    exact ⟨rfl,HG.out⟩
   ·rw [if_neg hxz] at hnx
    have HN:=hid hnx
    clear hnx hx
    go_wp2_with (fail)
    go_round
    case rel=>exact ⟨j+1,x,by omega,by first | rfl | go_num,rfl,HN⟩
    case measure=>simp [intOf];omega
  ·obtain rfl:j=n:=by omega
   have hlt':¬ ((j:Int) < (j:Int)):=by omega
   have hu:=HU.out
   rw [List.take_of_length_le (by rw [HL.out];exact Nat.le_refl _)] at hu
   have hr:=Zld (by rw [HL.out];exact hn) hu
   rw [HB.out.1,HB.out.2] at hr
   have HR:=hid hr
   clear hu hr
   by_cases hzn:z < nx
   rotate_left 1
   ·have hzn':¬ (nx > z):=hzn
    have hbf:b=false:=by rw [HR.out];simp [hzn]
    subst hbf
    go_wp2_with (fail)
    go_ret
    exact ⟨rfl,HG.out⟩
   have hzn':nx > z:=hzn
   by_cases hnm:nx≤99999999
   ·have hbf:b=true:=by rw [HR.out];simp [hzn,hnm]
    subst hbf
    go_wp2_with (fail)
    go_ret
    exact ⟨rfl,HG.out⟩
   ·have hbf:b=false:=by rw [HR.out];simp [hnm]
    subst hbf
    go_wp2_with (fail)
    go_ret
    exact ⟨rfl,HG.out⟩
end Go.Proofs.YtkelafkbmnjpeaaGreat
set_option maxHeartbeats 8000000
set_option maxRecDepth 100000
namespace Go.Proofs.YtkelafkbmnjpeaaGreat
open Go.Lib (hid)
open Go.RowKit
theorem fours_small:∀ (bs:List UInt8),∀ n∈foursL bs,0≤n∧n < 4294967296
 | a :: b :: c :: d :: r,n,hn=>by
   rw [foursL] at hn
   rcases List.mem_cons.1 hn with rfl | hn
   ·have h:=Zam [a,b,c,d]
    rw [show ([a,b,c,d]:List UInt8).length=4 from rfl,show (256:Int) ^ 4=4294967296 by decide] at h
    exact h
   ·exact fours_small r n hn
 | [],n,hn=>by cases hn
 | [_],n,hn=>by cases hn
 | [_,_],n,hn=>by cases hn
 | [_,_,_],n,hn=>by cases hn
theorem Znz {bs:List UInt8} {m:Mn} (h:toldM bs=some m):(∀ n∈m.segs,In64 n)∧In64 m.next:=by
 unfold toldM at h
 split at h
 ·cases h
 ·split at h
  ·cases h
  ·injection h with h
   subst h
   refine ⟨fun n hn=>?_,?_⟩
   ·have:=fours_small _ n hn
    unfold In64
    omega
   ·have h1:=Zam ((bs.drop 1).take 4)
    have h2:((bs.drop 1).take 4).length≤4:=by rw [List.length_take];omega
    have h3:(256:Int) ^ ((bs.drop 1).take 4).length≤4294967296:=by
     generalize ((bs.drop 1).take 4).length=q at *
     obtain h | h | h | h | h:q=0∨q=1∨q=2∨q=3∨q=4:=by omega
     all_goals
      subst h
      decide
    unfold In64
    dsimp only
    omega
theorem Zn0 {c y:List UInt8} {k:Nat} (h:Zi c=(y,k,0)):y.length≤8192:=by
 obtain ⟨h1,h2,h3⟩:=Zc1 h
 have h4:=congrArg List.length h3
 rw [List.length_take] at h4
 by_cases hg:Good y
 ·exact hg.2
 ·rw [Zeb hg] at h4
  simp only [List.length_nil] at h4
  omega
theorem Zte (w:World) (A:Option Addr) (n c:Nat) (bs:List UInt8) (h:Sl w A n c bs) (hn:n≤140737488351232) :
 Calls Tryz.prog 96 #[.slice A n c] w (MnTo w (getM bs)):=by
 have hlen:=h.len
 have hm:=Whole.made w 96 #[.slice none 0 0,.int .i64 0]
 have hg:=Zb w (.cells #[.slice none 0 0,.int .i64 0] 96)
 have HS:=hid (h.grow hg)
 obtain ⟨w1,hw1⟩:∃ x,w.alloc (.cells #[.slice none 0 0,.int .i64 0] 96)=x:=⟨_,rfl⟩
 rw [hw1] at hm hg HS
 have HG:=hid hg
 have HM:=hid hm
 have HF:=hid (Zpx A n c bs w1 HS.out (by omega))
 obtain ⟨o,ho⟩:∃ o,getM bs=o:=⟨_,rfl⟩
 rw [ho]
 obtain ⟨⟨y,k,er⟩,hf⟩:∃ q,Zi bs=q:=⟨_,rfl⟩
 rw [hf] at HF
 unfold getM at ho
 rw [hf,hlen] at ho
 dsimp only at ho HF
 have HS1:=hid (show w1.heap.size=w.heap.size+1 by rw [←hw1,World.size_alloc])
 clear h hm hg
 go_enter Tryz.func96,Tryz.ntmps96
 go_wp2_with (fail)
 refine HF.out.mono ?_
 rintro e w2 ⟨A2,m2,c2,rfl,hs2,hb2⟩
 have HG2:=hid (show Grows w1 w2 from hb2)
 have HS2:=hid hs2
 have hm2:=HG2.out.whole HM.out
 have HM2:=hid hm2
 have k0:=hm2.free 0
 have k1:=hm2.free 1
 have k2:=hm2.cell 0
 have k3:=hm2.cell 1
 simp only [Gt] at k0 k1 k2 k3
 clear hs2 hb2 hm2 hw1 HF
 by_cases her:er=0
 rotate_left 1
 ·have herb:(((er:Nat):Int) != 0)=true:=by rw [bne_iff_ne];omega
  obtain rfl:o=none:=by rw [←ho,if_neg (fun h=>her h.1)]
  clear her ho
  go_wp2_with (fail)
  refine bodyPost_ret (Yb rfl _ _ w.heap.size _ _ _ (.bool false) rfl rfl (show Whole _ _ _ #[.slice none 0 0,.int .i64 0] from (HM2.out.put 0 _).put 1 _)) rfl ?_
  exact MnTo.none ((Below.setCell (p:=⟨w.heap.size,0,none⟩) (HG.out.trans HG2.out) (Nat.le_refl _) _).setCell (p:=⟨w.heap.size,1,none⟩) (Nat.le_refl _) _)
 subst her
 by_cases hkn:k=n
 rotate_left 1
 ·have hknb:(((k:Nat):Int) != ((n:Nat):Int))=true:=by rw [bne_iff_ne];omega
  obtain rfl:o=none:=by rw [←ho,if_neg (fun h=>hkn h.2)]
  clear hkn ho
  go_wp2_with (fail)
  refine bodyPost_ret (Yb rfl _ _ w.heap.size _ _ _ (.bool false) rfl rfl (show Whole _ _ _ #[.slice none 0 0,.int .i64 0] from (HM2.out.put 0 _).put 1 _)) rfl ?_
  exact MnTo.none ((Below.setCell (p:=⟨w.heap.size,0,none⟩) (HG.out.trans HG2.out) (Nat.le_refl _) _).setCell (p:=⟨w.heap.size,1,none⟩) (Nat.le_refl _) _)
 subst hkn
 rw [if_pos ⟨rfl,rfl⟩] at ho
 have hyl:=Zn0 hf
 have HT:=hid (Zqw w2 A2 m2 c2 y HS2.out (by rw [←HS2.out.len];omega))
 obtain ⟨t,ht⟩:∃ t,toldM y=t:=⟨_,rfl⟩
 rw [ht] at HT ho
 have HTS:=hid (show ∀ m,t=some m→(∀ n∈m.segs,In64 n)∧In64 m.next from fun m e=>Znz (ht.trans e))
 have HO:=hid ho
 clear hf ht ho hyl
 go_wp2_with (fail)
 refine HT.out.mono ?_
 rintro e w3 ⟨A3,m3,c3,rfl,ho3,hg3⟩
 obtain ⟨x3,hx3⟩:∃ x,(mnOf t).next=x:=⟨_,rfl⟩
 obtain ⟨b3,hb3⟩:∃ x,t.isSome=x:=⟨_,rfl⟩
 rw [hx3,hb3]
 have hg4:=Zb w3 (.cells #[.slice A3 m3 c3,.int .i64 x3] 96)
 have hm4:=Whole.made w3 96 #[.slice A3 m3 c3,.int .i64 x3]
 have hm5:=(Grows.trans (hg3:Grows w2 w3) hg4).whole HM2.out
 have q0:=hm5.free 0
 have q1:=hm5.free 1
 have q2:=hm5.cell 0
 have q3:=hm5.cell 1
 have q4:=hm4.cell 0
 have q5:=hm4.cell 1
 simp only [Gt] at q0 q1 q2 q3 q4 q5
 have HX:=hid (And.intro ho3 (And.intro hg3 (And.intro hx3 (And.intro hb3 (And.intro hg4 (And.intro hm4 hm5))))))
 clear ho3 hg3 hx3 hb3 hg4 hm4 hm5 k0 k1 k2 k3
 cases b3 with
 | false =>
   obtain rfl:t=none:=by have:=HX.out.2.2.2.1;cases t with | none=>rfl | some _=>cases this
   obtain rfl:o=none:=HO.out.symm
   go_wp2_with (fail)
   refine bodyPost_ret (Yb rfl _ _ w.heap.size _ _ _ (.bool false) rfl rfl (show Whole _ _ _ #[.slice none 0 0,.int .i64 0] from (HX.out.2.2.2.2.2.2.put 0 _).put 1 _)) rfl ?_
   exact MnTo.none ((Below.setCell (p:=⟨w.heap.size,0,none⟩) (HG.out.trans (HG2.out.trans (Grows.trans HX.out.2.1 HX.out.2.2.2.2.1))) (Nat.le_refl _) _).setCell (p:=⟨w.heap.size,1,none⟩) (Nat.le_refl _) _)
 | true =>
   obtain ⟨m,rfl⟩:∃ m,t=some m:=by have:=HX.out.2.2.2.1;cases t with | none=>cases this | some m=>exact ⟨m,rfl⟩
   have hx:m.next=x3:=HX.out.2.2.1
   have hin:MnIn (w3.alloc (.cells #[.slice A3 m3 c3,.int .i64 x3] 96)) A3 m3 c3 m:=⟨(Ints.owned (Zh HX.out.1 (Nat.zero_le _))).grow HX.out.2.2.2.2.1,(HTS.out m rfl).1,(HTS.out m rfl).2⟩
   have hr:=Zdx _ A3 m3 c3 m hin
   rw [hx] at hr
   obtain ⟨r,hrr⟩:∃ r,Ya m=r:=⟨_,rfl⟩
   rw [hrr] at hr
   have HR:=hid hr
   have HRR:=hid (And.intro hrr hx)
   clear hx hin hr hrr
   go_wp2_with (fail)
   refine HR.out.mono ?_
   rintro e w6 ⟨rfl,hg6⟩
   have hm6:=hg6.whole HX.out.2.2.2.2.2.2
   have hm7:=hg6.whole HX.out.2.2.2.2.2.1
   have p0:=hm6.free 0
   have p1:=hm6.free 1
   have p2:=hm6.cell 0
   have p3:=hm6.cell 1
   have p4:=hm7.cell 0
   have p5:=hm7.cell 1
   simp only [Gt] at p0 p1 p2 p3 p4 p5
   have HM6:=hid hm6
   have HG6:=hid (show Grows w w6 from HG.out.trans (HG2.out.trans (Grows.trans HX.out.2.1 (Grows.trans HX.out.2.2.2.2.1 hg6))))
   have HO6:=hid (Zd HX.out.1 (Grows.trans HX.out.2.2.2.2.1 hg6))
   clear hm6 hm7 hg6 q0 q1 q2 q3 q4 q5
   cases r with
   | false =>
     obtain rfl:o=none:=by
      have:=HO.out
      try dsimp only at this
      rw [HRR.out.1] at this
      exact this.symm
     go_wp2_with (fail)
     refine bodyPost_ret (Yb rfl _ _ w.heap.size _ _ _ (.bool false) rfl rfl (show Whole _ _ _ #[.slice none 0 0,.int .i64 0] from (HM6.out.put 0 _).put 1 _)) rfl ?_
     exact MnTo.none ((Below.setCell (p:=⟨w.heap.size,0,none⟩) HG6.out (Nat.le_refl _) _).setCell (p:=⟨w.heap.size,1,none⟩) (Nat.le_refl _) _)
   | true =>
     obtain rfl:o=some m:=by
      have:=HO.out
      try dsimp only at this
      rw [HRR.out.1,if_pos rfl] at this
      exact this.symm
     go_wp2_with (fail)
     refine bodyPost_ret (Yb rfl _ _ w.heap.size _ _ _ (.bool true) rfl rfl (show Whole _ _ _ #[.slice A3 m3 c3,.int .i64 x3] from (HM6.out.put 0 _).put 1 _)) rfl ?_
     have hsp:Zc (fun g=>g=w.heap.size) w6 ((w6.setCell ⟨w.heap.size,0,none⟩ (.slice A3 m3 c3)).setCell ⟨w.heap.size,1,none⟩ (.int .i64 x3)):=((Zc.refl (fun g=>g=w.heap.size) w6).setCell (p:=⟨w.heap.size,0,none⟩) rfl _).setCell (p:=⟨w.heap.size,1,none⟩) rfl _
     have hle:w.heap.size < w2.heap.size:=by have h1:=HS1.out;have h2:=HG2.out.size;omega
     refine ⟨A3,m3,c3,by rw [show (mnOf (some m)).next=x3 from HRR.out.2];rfl,Zh (Zz HO6.out fun g hg=>hsp.same g (HO6.out.lt g hg).2 (by have:=(HO6.out.lt g hg).1;omega)) (Nat.le_of_lt hle),Below.trans HG6.out (hsp.below HG6.out.size fun g hg e=>by omega)⟩
end Go.Proofs.YtkelafkbmnjpeaaGreat
set_option maxHeartbeats 8000000
set_option maxRecDepth 100000
namespace Go.Proofs.YtkelafkbmnjpeaaGreat
open Go.Lib (hid)
open Go.RowKit Go.Maps Go.WideMaps
theorem Zak {fn:Func} {p q r:Tmp} (h:fn.results=#[.cell p 96,.tmp q,.tmp r]) (tmps:Array Value) (w:World) (g:Nat) (t:TypeId) (u0 u1:Value) (b f:Value)
 (hp:tmps.getD p undef=.pointer (some ⟨g,0,none⟩)) (hq:tmps.getD q undef=b) (hr:tmps.getD r undef=f) (hg:Whole w g t #[u0,u1]) :
 (results fn tmps).run Tryz.prog w=.ok (.tuple #[.agg #[u0,u1],b,f]) w:=by
 have hp':tmps[p]?.getD undef=.pointer (some ⟨g,0,none⟩):=by simpa using hp
 have hq':tmps[q]?.getD undef=b:=by simpa using hq
 have hr':tmps[r]?.getD undef=f:=by simpa using hr
 have hi:(Tryz.prog.info? 96).map (·.size)=some 2:=by kernel_rfl
 simp [results,h,hp',hq',hr',asAddr,run_loadVar_row w g t 96 #[u0,u1] (0,0) _ hg Tryz.underlying96 rfl hi]
def MnTo3 (w:World) (r:Mn×Bool×Int) (e:Ending) (w':World):Prop:=∃ A' k c',e=.returned (.tuple #[.agg #[.slice A' k c',.int .i64 r.1.next],.bool r.2.1,.int .i64 r.2.2])∧w'.ownsRow w.heap.size 3 1 (.slice A' k c') k (r.1.segs.map iV)∧Grows w w'
theorem MnTo3.none {w w':World} (x:Int) (h:Grows w w'):MnTo3 w (Mn.none,false,x) (.returned (.tuple #[.agg #[.slice Option.none 0 0,.int .i64 0],.bool false,.int .i64 x])) w':=⟨Option.none,0,0,rfl,World.ownsRow_nil _ _ _ _,h⟩
section
variable {B d K:Nat} {w0 w:World} {out:Nat→Prop} {m:Dk}
theorem Zqv (w:World) (h:DkIn B w0 w d out m) (ok:DkOk K m) (hK:K≤100000000) :
 Calls Tryz.prog 51 #[.pointer (some ⟨d,0,none⟩)] w (MnTo3 w (loadP m)):=by
 have hm:=Whole.made w 96 #[.slice none 0 0,.int .i64 0]
 have hg:=Zb w (.cells #[.slice none 0 0,.int .i64 0] 96)
 obtain ⟨w1,hw1⟩:∃ x,w.alloc (.cells #[.slice none 0 0,.int .i64 0] 96)=x:=⟨_,rfl⟩
 rw [hw1] at hm hg
 have HG:=hid hg
 have HM:=hid hm
 have HS1:=hid (show w1.heap.size=w.heap.size+1 by rw [←hw1,World.size_alloc])
 have HD:=hid (h.grow hg)
 have HN:=hid (Zk1 w1)
 obtain ⟨⟨sv,sb⟩,hsz⟩:∃ q,m.size nmM=q:=⟨_,rfl⟩
 have hsv:0≤sv∧sv≤100000000:=by
  obtain ⟨own,G,h1,_⟩:=h
  unfold Dk.size at hsz
  cases hf:Dir.find nmM m.names with
  | none=>rw [hf] at hsz;injection hsz with h2 _;omega
  | some f =>
    rw [hf] at hsz
    injection hsz with h2 _
    have:=(ok.bytes f (h1.find_lt (by decide) hf)).1
    omega
 have HSZ:=hid (fun w' (hg:Grows w1 w')=>Zhx nmM (HD.out.grow hg) (by decide) hsz)
 obtain ⟨⟨rb,re⟩,hrd⟩:∃ q,m.read nmM 0 sv=q:=⟨_,rfl⟩
 have hrlen:=fun h0=>Zda (m:=m) (n:=nmM) (x:=0) (k:=sv) h0
 rw [hrd] at hrlen
 have hrr:=fun w' (hg:Grows w1 w')=>Zdb nmM 0 sv (HD.out.grow hg) ok (by omega) (by decide) (by omega) (by omega) hrd
 obtain ⟨r,hr⟩:∃ r,loadP m=r:=⟨_,rfl⟩
 rw [hr]
 unfold loadP at hr
 rw [hsz] at hr
 dsimp only at hr
 rw [hrd] at hr
 dsimp only at hr hrlen
 obtain ⟨bs,hbs⟩:∃ q,rb.getD []=q:=⟨_,rfl⟩
 unfold GotTo at hrr
 dsimp only at hrr
 rw [hbs] at hr hrr
 have hbl:re=0→bs.length≤100000000:=fun h0=>by
  obtain ⟨b,e,hl⟩:=hrlen h0
  rw [←hbs,e]
  show b.length≤100000000
  omega
 obtain ⟨s,hs⟩:∃ s:ByteArray,(⟨([109]:List UInt8).toArray⟩:ByteArray)=s:=⟨_,rfl⟩
 rw [show nmM=[109] from rfl] at HSZ hrr
 rw [hs] at HN HSZ hrr
 have HRR:=hid hrr
 clear h hm hg hsz hrd hrlen hbs hs hrr ok
 go_enter Tryz.func51,Tryz.ntmps51
 go_wp2_with (fail)
 refine HN.out.mono ?_
 rintro e w2 ⟨rfl,hg2⟩
 have HG2:=hid hg2
 clear hg2
 go_wp2_with (fail)
 refine (HSZ.out w2 HG2.out).mono ?_
 rintro e w3 ⟨rfl,rfl⟩
 go_wp2_with (fail)
 refine (HRR.out w2 HG2.out).mono ?_
 rintro e w4 ⟨A4,c4,rfl,hs4,hg4⟩
 have HS4:=hid hs4
 have HG4:=hid (Grows.trans HG2.out hg4)
 have hm4:=HG4.out.whole HM.out
 have HM4:=hid hm4
 have k0:=hm4.free 0
 have k1:=hm4.free 1
 have k2:=hm4.cell 0
 have k3:=hm4.cell 1
 simp only [Gt] at k0 k1 k2 k3
 clear hs4 hg4 hm4 hw1
 by_cases h3:re=3
 ·subst h3
  rw [if_pos rfl] at hr
  subst hr
  go_wp2_with (fail)
  refine bodyPost_ret (Zak rfl _ _ w.heap.size _ _ _ (.bool false) (.int .i64 0) rfl rfl rfl (show Whole _ _ _ #[.slice none 0 0,.int .i64 0] from (HM4.out.put 0 _).put 1 _)) rfl ?_
  exact MnTo3.none 0 ((Below.setCell (p:=⟨w.heap.size,0,none⟩) (HG.out.trans HG4.out) (Nat.le_refl _) _).setCell (p:=⟨w.heap.size,1,none⟩) (Nat.le_refl _) _)
 have h3b:(re==3)=false:=by rw [beq_eq_false_iff_ne];exact h3
 rw [if_neg h3] at hr
 by_cases h0:re=0
 rotate_left 1
 ·have h0b:(re != 0)=true:=by rw [bne_iff_ne];exact h0
  rw [if_neg h0] at hr
  subst hr
  clear h0 h3
  go_wp2_with (fail)
  refine bodyPost_ret (Zak rfl _ _ w.heap.size _ _ _ (.bool false) (.int .i64 re) rfl rfl rfl (show Whole _ _ _ #[.slice none 0 0,.int .i64 0] from (HM4.out.put 0 _).put 1 _)) rfl ?_
  exact MnTo3.none re ((Below.setCell (p:=⟨w.heap.size,0,none⟩) (HG.out.trans HG4.out) (Nat.le_refl _) _).setCell (p:=⟨w.heap.size,1,none⟩) (Nat.le_refl _) _)
 subst h0
 rw [if_pos rfl] at hr
 have HT:=hid (Zte w4 A4 bs.length c4 bs HS4.out (by have:=hbl rfl;omega))
 obtain ⟨nb,hnb⟩:∃ nb,bs.length=nb:=⟨_,rfl⟩
 rw [hnb] at HT ⊢
 obtain ⟨t,ht⟩:∃ t,getM bs=t:=⟨_,rfl⟩
 rw [ht] at HT hr
 have HR:=hid hr
 clear h3 h3b hr ht hbl hnb
 go_wp2_with (fail)
 refine HT.out.mono ?_
 rintro e w5 ⟨A5,m5,c5,rfl,ho5,hg5⟩
 obtain ⟨x5,hx5⟩:∃ x,(mnOf t).next=x:=⟨_,rfl⟩
 obtain ⟨b5,hb5⟩:∃ x,t.isSome=x:=⟨_,rfl⟩
 rw [hx5,hb5]
 have hg6:=Zb w5 (.cells #[.slice A5 m5 c5,.int .i64 x5] 96)
 have hm6:=Whole.made w5 96 #[.slice A5 m5 c5,.int .i64 x5]
 have hm7:=(Grows.trans (hg5:Grows w4 w5) hg6).whole HM4.out
 have q0:=hm7.free 0
 have q1:=hm7.free 1
 have q2:=hm7.cell 0
 have q3:=hm7.cell 1
 have q4:=hm6.cell 0
 have q5:=hm6.cell 1
 simp only [Gt] at q0 q1 q2 q3 q4 q5
 have HG7:=hid (show Grows w (w5.alloc (.cells #[.slice A5 m5 c5,.int .i64 x5] 96)) from HG.out.trans (HG4.out.trans (Grows.trans hg5 hg6)))
 have HO7:=hid (Zd ho5 hg6)
 have HM7:=hid hm7
 have HX:=hid (And.intro hx5 hb5)
 clear ho5 hg5 hx5 hb5 hg6 hm6 hm7 k0 k1 k2 k3
 cases b5 with
 | false =>
   obtain rfl:t=none:=by have:=HX.out.2;cases t with | none=>rfl | some _=>cases this
   have hr:=HR.out
   dsimp only at hr
   subst hr
   go_wp2_with (fail)
   refine bodyPost_ret (Zak rfl _ _ w.heap.size _ _ _ (.bool false) (.int .i64 22) rfl rfl rfl (show Whole _ _ _ #[.slice none 0 0,.int .i64 0] from (HM7.out.put 0 _).put 1 _)) rfl ?_
   exact MnTo3.none 22 ((Below.setCell (p:=⟨w.heap.size,0,none⟩) HG7.out (Nat.le_refl _) _).setCell (p:=⟨w.heap.size,1,none⟩) (Nat.le_refl _) _)
 | true =>
   obtain ⟨x,rfl⟩:∃ m,t=some m:=by have:=HX.out.2;cases t with | none=>cases this | some m=>exact ⟨m,rfl⟩
   have hr:=HR.out
   dsimp only at hr
   subst hr
   obtain ⟨w6,hw6⟩:∃ w6,w5.alloc (.cells #[.slice A5 m5 c5,.int .i64 x5] 96)=w6:=⟨_,rfl⟩
   rw [hw6] at HG7 HO7 HM7 q0 q1 q2 q3 q4 q5
   have HNX:=hid (show x.next=x5 from HX.out.1)
   go_wp2_with (fail)
   refine bodyPost_ret (Zak rfl _ _ w.heap.size _ _ _ (.bool true) (.int .i64 0) rfl rfl rfl (show Whole _ _ _ #[.slice A5 m5 c5,.int .i64 x5] from (HM7.out.put 0 _).put 1 _)) rfl ?_
   have hsp:Zc (fun g=>g=w.heap.size) w6 ((w6.setCell ⟨w.heap.size,0,none⟩ (.slice A5 m5 c5)).setCell ⟨w.heap.size,1,none⟩ (.int .i64 x5)):=((Zc.refl (fun g=>g=w.heap.size) w6).setCell (p:=⟨w.heap.size,0,none⟩) rfl _).setCell (p:=⟨w.heap.size,1,none⟩) rfl _
   have hle:w.heap.size < w4.heap.size:=by have h1:=HS1.out;have h2:=HG4.out.size;omega
   refine ⟨A5,m5,c5,by rw [HNX.out],Zh (Zz HO7.out fun g hg=>hsp.same g (HO7.out.lt g hg).2 (by have:=(HO7.out.lt g hg).1;omega)) (Nat.le_of_lt hle),Below.trans HG7.out (hsp.below HG7.out.size fun g hg e=>by omega)⟩
end
end Go.Proofs.YtkelafkbmnjpeaaGreat
set_option maxRecDepth 100000
namespace Go.Proofs.YtkelafkbmnjpeaaGreat
open Go.Lib (hid)
open Go.RowKit Go.Maps Go.WideMaps
def Zdg (B:Nat) (w0:World) (d:Nat) (out:Nat→Prop) (w:World) (r:Dk×Int) (e:Ending) (w':World):Prop:=e=.returned (.int .i64 r.2)∧DkIn B w0 w' d out r.1∧Stays B out w w'
section
variable {B d K:Nat} {w0 w:World} {out:Nat→Prop} {m:Dk}
theorem Zla (w:World) (h:DkIn B w0 w d out m) (ok:DkOk K m) (hK:K≤100000000) {s:ByteArray} (hs:(⟨nmT.toArray⟩:ByteArray)=s) :
 Calls Tryz.prog 198 #[.pointer (some ⟨d,0,none⟩),.string s] w (Zdg B w0 d out w (leftP m)):=by
 obtain ⟨⟨sv,sb⟩,hsz⟩:∃ q,m.size nmT=q:=⟨_,rfl⟩
 have hsi:=Zhx nmT h (by decide) hsz
 have hrm:=Ze1 nmT h ok (by omega) (by decide) rfl rfl
 rw [hs] at hsi hrm
 have HSI:=hid hsi
 have HRM:=hid hrm
 have H:=hid h
 unfold leftP
 rw [hsz]
 dsimp only
 obtain ⟨r,hr⟩:∃ r,m.remove nmT=r:=⟨_,rfl⟩
 rw [hr] at HRM ⊢
 clear hsi hrm h ok hs hsz hr
 cases sb with
 | false =>
   rw [if_neg (by decide)]
   go_enter Tryz.func198,Tryz.ntmps198
   go_wp2_with (fail)
   refine HSI.out.mono ?_
   rintro e w1 ⟨rfl,rfl⟩
   go_wp2_with (fail)
   go_ret
   exact ⟨rfl,H.out,Stays.grows (Grows.refl _)⟩
 | true =>
   rw [if_pos rfl]
   go_enter Tryz.func198,Tryz.ntmps198
   go_wp2_with (fail)
   refine HSI.out.mono ?_
   rintro e w1 ⟨rfl,rfl⟩
   go_wp2_with (fail)
   refine HRM.out.mono ?_
   rintro e w2 ⟨rfl,hd,hst⟩
   have HX:=hid (And.intro hd hst)
   clear hd hst
   go_wp2_with (fail)
   go_ret
   exact ⟨rfl,HX.out.1,HX.out.2⟩
theorem Zqp (w:World) (h:DkIn B w0 w d out m) (ok:DkOk K m) (hK:K≤100000000) {s:ByteArray} (hs:(⟨nmT.toArray⟩:ByteArray)=s) {bd bt:Nat} (z1:w.cell? ⟨bd,0,none⟩=some (.pointer (some ⟨d,0,none⟩))) (z2:w.cell? ⟨bt,0,none⟩=some (.string s)) :
 Calls Tryz.prog 197 #[.pointer (some ⟨bd,0,none⟩),.pointer (some ⟨bt,0,none⟩)] w (Zdg B w0 d out w (leftP m)):=by
 have HR:=hid (Zla w h ok hK hs)
 obtain ⟨r,hr⟩:∃ r,leftP m=r:=⟨_,rfl⟩
 rw [hr] at HR ⊢
 clear h ok hs hr
 go_enter Tryz.func197,Tryz.ntmps197
 go_wp2_with (fail)
 refine HR.out.mono ?_
 rintro e w2 ⟨rfl,hd,hst⟩
 have HX:=hid (And.intro hd hst)
 clear hd hst
 go_wp2_with (fail)
 go_ret
 exact ⟨rfl,HX.out.1,HX.out.2⟩
theorem Zqq (w:World) (h:DkIn B w0 w d out m) (ok:DkOk K m) (hK:K≤100000000) {s:ByteArray} (hs:(⟨nmT.toArray⟩:ByteArray)=s) {bo bt:Nat} (z1:w.cell? ⟨bo,0,none⟩=some (.func (.func 129) #[.pointer (some ⟨d,0,none⟩)] #[])) (z2:w.cell? ⟨bt,0,none⟩=some (.string s)) :
 Calls Tryz.prog 263 #[.pointer (some ⟨bo,0,none⟩),.pointer (some ⟨bt,0,none⟩)] w (Zdg B w0 d out w (m.create nmT)):=by
 have hr0:=Ze0 nmT h ok (by omega) (by decide) rfl rfl
 rw [hs] at hr0
 obtain ⟨r,hr⟩:∃ r,m.create nmT=r:=⟨_,rfl⟩
 rw [hr] at hr0 ⊢
 have HR:=hid hr0
 clear h ok hs hr hr0
 go_enter Tryz.func263,Tryz.ntmps263
 go_wp2_with (fail)
 refine HR.out.mono ?_
 rintro e w2 ⟨rfl,hd,hst⟩
 have HX:=hid (And.intro hd hst)
 clear hd hst
 go_wp2_with (fail)
 go_ret
 exact ⟨rfl,HX.out.1,HX.out.2⟩
theorem Zqr (w:World) (h:DkIn B w0 w d out m) (ok:DkOk K m) (hK:K≤100000000) {s:ByteArray} (hs:(⟨nmT.toArray⟩:ByteArray)=s) {bo bt:Nat} (z1:w.cell? ⟨bo,0,none⟩=some (.func (.func 72) #[.pointer (some ⟨d,0,none⟩)] #[])) (z2:w.cell? ⟨bt,0,none⟩=some (.string s)) :
 Calls Tryz.prog 263 #[.pointer (some ⟨bo,0,none⟩),.pointer (some ⟨bt,0,none⟩)] w (Zdg B w0 d out w (m.sync nmT)):=by
 have hr0:=Zkq nmT h ok (by omega) (by decide) rfl rfl
 rw [hs] at hr0
 obtain ⟨r,hr⟩:∃ r,m.sync nmT=r:=⟨_,rfl⟩
 rw [hr] at hr0 ⊢
 have HR:=hid hr0
 clear h ok hs hr hr0
 go_enter Tryz.func263,Tryz.ntmps263
 go_wp2_with (fail)
 refine HR.out.mono ?_
 rintro e w2 ⟨rfl,hd,hst⟩
 have HX:=hid (And.intro hd hst)
 clear hd hst
 go_wp2_with (fail)
 go_ret
 exact ⟨rfl,HX.out.1,HX.out.2⟩
theorem Zqs (w:World) (h:DkIn B w0 w d out m) (ok:DkOk K m) (hK:K≤100000000) {s:ByteArray} (hs:(⟨nmT.toArray⟩:ByteArray)=s) {bd bt bb:Nat} (z1:w.cell? ⟨bd,0,none⟩=some (.pointer (some ⟨d,0,none⟩))) (z2:w.cell? ⟨bt,0,none⟩=some (.string s))
 {A:Option Addr} {n c:Nat} {bs:List UInt8} (z3:w.cell? ⟨bb,0,none⟩=some (.slice A n c)) (hsl:Sl w A n c bs) (hoff:∀ ad,A=some ad→bs≠[]→ad.block < B∨out ad.block) (hn:n≤1000000) :
 Calls Tryz.prog 200 #[.pointer (some ⟨bd,0,none⟩),.pointer (some ⟨bt,0,none⟩),.pointer (some ⟨bb,0,none⟩)] w (Zdg B w0 d out w (m.append nmT bs)):=by
 have hr0:=Zau nmT h ok (by omega) (by decide) hsl hoff (by omega) rfl rfl
 rw [hs] at hr0
 obtain ⟨r,hr⟩:∃ r,m.append nmT bs=r:=⟨_,rfl⟩
 rw [hr] at hr0 ⊢
 have HR:=hid hr0
 clear h ok hs hr hr0 hsl hoff
 go_enter Tryz.func200,Tryz.ntmps200
 go_wp2_with (fail)
 refine HR.out.mono ?_
 rintro e w2 ⟨rfl,hd,hst⟩
 have HX:=hid (And.intro hd hst)
 clear hd hst
 go_wp2_with (fail)
 go_ret
 exact ⟨rfl,HX.out.1,HX.out.2⟩
theorem Zqt (w:World) (h:DkIn B w0 w d out m) (ok:DkOk K m) (hK:K≤100000000) {s:ByteArray} (hs:(⟨nmT.toArray⟩:ByteArray)=s) {bd bt:Nat} (z1:w.cell? ⟨bd,0,none⟩=some (.pointer (some ⟨d,0,none⟩))) (z2:w.cell? ⟨bt,0,none⟩=some (.string s)) (hd1:bd < w.heap.size) (ht1:bt < w.heap.size) :
 Calls Tryz.prog 201 #[.pointer (some ⟨bd,0,none⟩),.pointer (some ⟨bt,0,none⟩)] w (Zdg B w0 d out w (m.rename nmT nmM)):=by
 have hr0:=fun w' (hC:Grows w w')=>Zpc nmT nmM (h.grow hC) ok (by omega) (by decide) (by decide) rfl rfl
 obtain ⟨s2,hs2⟩:∃ s2:ByteArray,(⟨nmM.toArray⟩:ByteArray)=s2:=⟨_,rfl⟩
 have hn:=fun w'=>Zk1 w'
 rw [show ([109]:List UInt8)=nmM from rfl,hs2] at hn
 rw [hs,hs2] at hr0
 obtain ⟨r,hr⟩:∃ r,m.rename nmT nmM=r:=⟨_,rfl⟩
 rw [hr] at hr0 ⊢
 have HR:=hid hr0
 have HN:=hid hn
 have HC:=hid (show ∀ w',Grows w w'→w'.cell? { block:=bd,off:=0 }=some (.pointer (some ⟨d,0,none⟩))∧w'.cell? { block:=bt,off:=0 }=some (.string s) from fun w' hC=>⟨(hC.cell (show (⟨bd,0,none⟩:Addr).block < w.heap.size from hd1)).trans z1,(hC.cell (show (⟨bt,0,none⟩:Addr).block < w.heap.size from ht1)).trans z2⟩)
 clear h ok hs hs2 hr hr0 hn z1 z2
 go_enter Tryz.func201,Tryz.ntmps201
 go_wp2_with (fail)
 refine Zf (E:=Grows) 3 [Za (.pointer (some ⟨d,0,none⟩)),Za (.string s),Za (.string s2)] mixed (by kernel_rfl) (fun _ _ _=>Grows.trans) (Ze _) ?_
 simp only [List.take_succ_cons,List.take_zero,List.drop_succ_cons,List.drop_zero]
 iterate 2
  refine f_val _ (by rfl) ?_ ?_
  ·intro w' hC;obtain ⟨z1,z2⟩:=HC.out w' hC;clear hC;go_simp
  simp only [Pu]
 refine Zv 73 #[.int .i64 3,.int .i64 0] (.string s2) (by rfl) (by intro w' hC;clear hC;go_simp) ?_ ?_
 ·intro w' hC hks;exact HN.out w'
 simp only [Pu]
 refine Zs ?_
 intro w2 hC hks
 have HCw2:=hid hC
 clear hC hks
 go_wp2_with (fail)
 refine (HR.out w2 HCw2.out).mono ?_
 rintro e w3 ⟨rfl,hd,hst⟩
 have HX:=hid (And.intro hd hst)
 clear hd hst
 go_wp2_with (fail)
 go_ret
 exact ⟨rfl,HX.out.1,(Stays.grows HCw2.out).trans HX.out.2⟩
theorem Zqu (w:World) (h:DkIn B w0 w d out m) (ok:DkOk K m) (hK:K≤100000000):Calls Tryz.prog 203 #[.pointer (some ⟨d,0,none⟩)] w (Zdg B w0 d out w m.syncDir) :=
 Znc h ok (by omega) rfl rfl
end
end Go.Proofs.YtkelafkbmnjpeaaGreat
