/-
  Texts that the statements lean on, one behind the other.
-/
import Derived.Test.YtkelafkbmnjpeaaGreatMG07
import Derived.Laws.CopyOwn
import Derived.Shelf.SlIter.Nil
import Derived.Shelf.SortM.Plain
import Derived.Shelf.SortM.SortNone
import Derived.Shelf.SlMaps.Clone
import Derived.Test.YtkelafkbmnjpeaaGreatProg
import Derived.Test.YtkelafkbmnjpeaaGreatMG00
import Derived.WalkKit
import Derived.ProofKit
import Derived.OpenShut
import Derived.ShutString
import Derived.ChangeOld
import Derived.SizedLaws
import Derived.Below
import Derived.Test.YtkelafkbmnjpeaaGreatMG01
set_option linter.unusedSimpArgs false
set_option linter.unusedVariables false
set_option maxHeartbeats 8000000
set_option maxRecDepth 100000
namespace Go.Proofs.YtkelafkbmnjpeaaGreat
open Go.Lib (hid)
open Go.RowKit Go.Maps Go.WideMaps
def Zgg (w:World) (r:Option (List UInt8)×Int) (e:Ending) (w':World):Prop :=
 match r.1 with
 | none=>e=.returned (.tuple #[.slice none 0 0,.int .i64 r.2])∧w=w'
 | some bs=>e=.returned (.tuple #[.slice (some ⟨w.heap.size,0,none⟩) bs.length bs.length,.int .i64 r.2])∧w'.ownsRow w.heap.size 5 1 (.slice (some ⟨w.heap.size,0,none⟩) bs.length bs.length) bs.length (bs.map byteV)∧Grows w w'
theorem Zuf (ad:Addr) (x j:Nat):ad.add (x+j)=(ad.add x).add j:=by
 unfold Addr.add
 by_cases hx:x=0
 ·subst hx;simp
 ·by_cases hj:j=0
  ·subst hj;simp
  ·simp [hx,hj,Nat.add_assoc]
theorem Zho {w3:World} {g K S C:Nat} {sp:Option Addr} {cur cs:List Value} (ty:TypeId) (hsz:(Tryz.prog.info? 5).map (·.size)=some 1) (hg:w3.heap[g]?=some (.cells cur.toArray 5 (0,0))) (hc:cs.length=K) (hS:K≤S) (hcur:cur.length=K)
 (hpos:0 < K→∃ ad,sp=some ad∧∀ (j:Nat) v,cs[j]?=some v→w3.cell? (ad.add j)=some v) (h1:∀ v∈cs,v.oneCell'=true) :
 ∃ w4,(Builtin.copy_ #[37,37] ty #[.slice (some ⟨g,0,none⟩) K K,.slice sp S C]).run Tryz.prog w3=.ok (goInt K) w4∧w4.heap[g]?=some (.cells (splice cur 0 cs).toArray 5 (0,0))∧Below g w3 w4:=by
 by_cases h0:K=0
 ·subst h0
  obtain rfl:cs=[]:=List.eq_nil_of_length_eq_zero hc
  exact ⟨w3,run_copy_none w3 _ _ ty 5 _ _ _ _ _ _ Tryz.underlying37 hsz (by simp),by simpa [splice] using hg,Below.refl _ _⟩
 ·obtain ⟨ad,rfl,hsrc⟩:=hpos (by omega)
  have hr:=run_copy_row (P:=Tryz.prog) w3 37 37 ty 5 g 0 K K ad S C cur.toArray 5 cs Tryz.underlying37 hsz hg (by rw [hc];exact (Nat.min_eq_right hS).symm) hsrc (by simp;omega) h1
  rw [hc] at hr
  refine ⟨_,hr,?_,Zd1 (Below.refl _ _) (Nat.le_refl _) _⟩
  have:=setRow_heap w3 g cur.toArray (List.take 0 cur++cs++List.drop (0+K) cur).toArray 5 (0,0) hg
  rw [this]
  unfold splice
  rw [hc,List.append_assoc]
theorem Zcs (k:Nat):(madeCells (Value.int .u8 0).cells (k*1)).toList.length=k:=by simp [size_madeCells]
section
variable {w:World} {d:Nat} {own:Nat→Prop} {G:Geo} {m:Dk}
theorem Zrx (w:World) (n:Nm) (x k:Int) (h:DkAt w d own G m) (hF:DkFit m) (hn:n.length≤maxLen) (hx:-9223372036854775808≤x∧x≤9223372036854775807) (hk:-9223372036854775808≤k∧k≤9223372036854775807) :
 Calls Tryz.prog 93 #[.pointer (some ⟨d,0,none⟩),.string ⟨n.toArray⟩,.int .i64 x,.int .i64 k] w fun e w'=>Zgg w (m.read n x k) e w':=by
 unfold Dk.read
 cases hd:m.down with
 | true =>
   have HFI:=hid (Zbj w h hn hd)
   rw [if_pos rfl]
   clear h hF hn hd hx hk
   go_enter Tryz.func93,Tryz.ntmps93
   go_wp2_with (fail)
   refine HFI.out.mono ?_
   rintro e w2 ⟨rfl,rfl⟩
   go_wp2_with (fail)
   all_goals (go_ret2;exact ⟨rfl,rfl⟩)
 | false =>
 rw [if_neg (by decide)]
 cases hf:Dir.find n m.names with
 | none =>
   have HFI:=hid (Zbk w h hn hd hf)
   dsimp only
   clear h hF hn hd hf hx hk
   go_enter Tryz.func93,Tryz.ntmps93
   go_wp2_with (fail)
   refine HFI.out.mono ?_
   rintro e w2 ⟨rfl,rfl⟩
   go_wp2_with (fail)
   all_goals (go_ret2;exact ⟨rfl,rfl⟩)
 | some f =>
 have HFI:=hid (Zbl w h hn hd hf)
 have hlt:=h.find_lt hn hf
 obtain ⟨A0,c0,hA0,hbare⟩:=Zp (h.rest.rows f hlt)
 have hc:=h.rest.cells f hlt
 have hrow:=h.rest.rows f hlt
 rw [hA0] at hc hrow
 have hl:=(hF.bytes f hlt).1
 have c1:w.cell? ⟨G.loc f,1,none⟩=some (.slice A0 (m.files f).bytes.length c0):=hc.cell 1
 have hcap:(m.files f).bytes.length≤c0:=by
  rcases hrow.2 with ⟨e,e2⟩ | ⟨g,cap,cur,e,_,_,e2,_⟩
  ·injection e with _ e _;omega
  ·injection e with _ _ e;omega
 have HR:=hid hrow
 have HBARE:=hid hbare
 dsimp only
 clear h hF hn hd hf hA0 hc hrow hlt hbare
 generalize (m.files f).bytes=bs at *
 generalize hnn:bs.length=nn at *
 have HN:=hid hnn
 clear hnn
 generalize G.loc f=lf at *
 by_cases b1:x < 0
 ·rw [if_pos (.inl b1)]
  clear hx hk HR HBARE hcap
  go_enter Tryz.func93,Tryz.ntmps93
  go_wp2_with (fail)
  refine HFI.out.mono ?_
  rintro e w2 ⟨rfl,rfl⟩
  go_wp2_with (fail)
  all_goals (go_ret2;exact ⟨rfl,rfl⟩)
 by_cases b2:k < 0
 ·rw [if_pos (.inr (.inl b2))]
  clear hx hk HR HBARE hcap
  go_enter Tryz.func93,Tryz.ntmps93
  go_wp2_with (fail)
  refine HFI.out.mono ?_
  rintro e w2 ⟨rfl,rfl⟩
  go_wp2_with (fail)
  all_goals (go_ret2;exact ⟨rfl,rfl⟩)
 by_cases b3:(nn:Int) < x
 ·rw [if_pos (.inr (.inr (.inl b3)))]
  clear hx hk HR HBARE hcap
  go_enter Tryz.func93,Tryz.ntmps93
  go_wp2_with (fail)
  refine HFI.out.mono ?_
  rintro e w2 ⟨rfl,rfl⟩
  go_wp2_with (fail)
  all_goals (go_ret2;exact ⟨rfl,rfl⟩)
 have w1:IntKind.i64.wrap ((nn:Int) - x)=nn - x:=IntWalk.i64_in _ (by omega)
 by_cases b4:(nn:Int) - x < k
 ·rw [if_pos (.inr (.inr (.inr b4)))]
  clear hx hk HR HBARE hcap
  go_enter Tryz.func93,Tryz.ntmps93
  go_wp2_with (fail)
  refine HFI.out.mono ?_
  rintro e w2 ⟨rfl,rfl⟩
  go_wp2_with (fail)
  all_goals (go_ret2;exact ⟨rfl,rfl⟩)
 rw [if_neg (by rintro (e | e | e | e) <;> contradiction)]
 obtain ⟨X,rfl⟩:∃ X:Nat,x=X:=⟨x.toNat,by omega⟩
 obtain ⟨K,rfl⟩:∃ K:Nat,k=K:=⟨k.toNat,by omega⟩
 obtain ⟨ys,hys⟩:∃ ys,(bs.drop X).take K=ys:=⟨_,rfl⟩
 have hyl:ys.length=K:=by
  rw [←hys,List.length_take,List.length_drop,HN.out]
  omega
 have e1:((X:Int)).toNat=X:=by omega
 have e2:((K:Int)).toNat=K:=by omega
 rw [e1,e2,hys]
 have HY:=hid (And.intro hys hyl)
 unfold Zgg
 dsimp only
 rw [hyl]
 obtain ⟨i0,hi0,hz0,hz1,hz2⟩:=info_parts infoU8
 have HI:=hid (And.intro hi0 (And.intro hz0 (And.intro hz1 hz2)))
 have HIS:=hid (show (Tryz.prog.info? 5).map (·.size)=some 1 by rw [hi0];simp [hz1])
 clear hi0 hz0 hz1 hz2 hys e1 e2
 have q1:X≤nn:=by omega
 have q2:K≤nn - X:=by omega
 have q3:K≤1000000000:=by omega
 have HQ:=hid (And.intro q1 (And.intro q2 hcap))
 have src:∀ ad,A0=some ad→∀ w',Grows w w'→∀ j v,(ys.map byteV)[j]?=some v→w'.cell? (ad.add (X+j))=some v:=fun ad ea w' hg j v hv=>by
  have hr:=Row.owned HR.out
  have h1:(bs.map byteV)[X+j]?=some v:=by
   rw [←HY.out.1,List.map_take,List.map_drop] at hv
   rw [List.getElem?_take] at hv
   split at hv
   ·rwa [List.getElem?_drop] at hv
   ·cases hv
  obtain ⟨ad',e,hb,hcl⟩:=Row.spot hr _ v h1
  rw [ea] at e
  cases e
  rw [←hcl]
  refine World.cell?_of_block ?_
  rw [show (ad.add (X+j)).block=ad.block by unfold Addr.add;split <;> rfl]
  exact hg.block _ hb
 have HS:=hid src
 clear src hyl
 have fin:∀ w1 w2:World,w1.ownsRow w.heap.size 5 1 (.slice (some ⟨w.heap.size,0,none⟩) K K) K (madeCells (Value.int .u8 0).cells (K*1)).toList→w.grownBy w1 none→Below w.heap.size w1 w2→w2.heap[w.heap.size]?=some (.cells (splice (madeCells (Value.int .u8 0).cells (K*1)).toList 0 (ys.map byteV)).toArray 5 (0,0)) →
  w2.ownsRow w.heap.size 5 1 (.slice (some ⟨w.heap.size,0,none⟩) K K) K (ys.map byteV)∧Grows w w2:=fun w1 w2 hr hg hb hs=>by
  have hsp:splice (madeCells (Value.int .u8 0).cells (K*1)).toList 0 (ys.map byteV)=ys.map byteV:=by
   unfold splice
   rw [List.drop_eq_nil_of_le (by rw [Zcs,List.length_map,HY.out.2];omega)]
   simp
  rw [hsp] at hs
  refine ⟨⟨by rw [List.length_map,HY.out.2];omega,.inr ⟨w.heap.size,K,(ys.map byteV).toArray,rfl,Nat.le_refl _,hs,Nat.le_refl _,by unfold maxLen;omega,?_,?_⟩⟩,?_⟩
  ·rw [List.size_toArray,List.length_map,HY.out.2];omega
  ·rw [List.take_of_length_le]
   rw [Array.length_toList,List.size_toArray,List.length_map,HY.out.2];omega
  ·have h1:Grows w w1:=(Below.refl _ w).grown hg (Nat.le_refl _) (fun g e=>by cases e)
   exact Below.trans h1 hb
 have HFN:=hid fin
 clear fin
 have MK:∀ w1:World,w1.ownsRow w.heap.size 5 1 (.slice (some ⟨w.heap.size,0,none⟩) K K) K (madeCells (Value.int .u8 0).cells (K*1)).toList→w.grownBy w1 none→w1.heap[w.heap.size]?=some (.cells (madeCells (Value.int .u8 0).cells (K*1)).toList.toArray 5 (0,0))∧w1.cell? ⟨lf,1,none⟩=some (.slice A0 nn c0)∧∀ ad,A0=some ad→∀ j v,(ys.map byteV)[j]?=some v→w1.cell? ((ad.add X).add j)=some v:=fun w1 hr hg=>by
  refine ⟨?_,(((Below.refl _ w).grown hg (Nat.le_refl _) (fun g e=>by cases e)).cell (World.block_lt_of_cell? w _ c1)).trans c1,fun ad e j v hv=>by
  have:=HS.out ad e w1 ((Below.refl _ w).grown hg (Nat.le_refl _) (fun g e=>by cases e)) j v hv
  rwa [Zuf] at this⟩
  rcases hr.2 with ⟨e,_⟩ | ⟨g,cap,cur,e,_,hh,e3,_,e4,e5⟩
  ·injection e with e;cases e
  ·injection e with e _ e6
   injection e with e
   injection e with e
   subst e
   subst e6
   rw [hh,←e5,List.take_of_length_le (by rw [Array.length_toList,e4];omega)]
 have HMK:=hid MK
 clear MK
 have d0:¬ (X:Int) < 0:=b1
 cases A0 with
 | none =>
   obtain rfl:c0=0:=HBARE.out rfl
   obtain rfl:nn=0:=by omega
   obtain rfl:X=0:=by omega
   obtain rfl:K=0:=by omega
   go_enter Tryz.func93,Tryz.ntmps93
   go_wp2_with (fail)
   refine HFI.out.mono ?_
   rintro e w2 ⟨rfl,rfl⟩
   go_wp2_with (first
    | (at_make;refine wpList_make_full _ rfl _ _ 37 rfl w.heap.size 5 i0 (.int .u8 0) 1 Tryz.underlying37 HI.out.1 HI.out.2.1 HI.out.2.2.1 .i64 .i64 _ _ 0 rfl rfl rfl rfl (by rw [HI.out.2.2.2];omega) (by unfold maxLen;omega) (Nat.le_refl _) ?_;intro w3 hr3 hg3;have c3:=(HMK.out w3 hr3 hg3).2.1;have HR3:=hid hr3;have HG3:=hid hg3;clear hr3 hg3))
   obtain ⟨w4,hrun,hs4,hb4⟩:=Zho (K:=0) (S:=0) (C:=0) (sp:=none) 3 HIS.out (HMK.out w3 HR3.out HG3.out).1 (cs:=ys.map byteV) (by rw [List.length_map,HY.out.2]) (Nat.le_refl _) (Zcs 0) (fun h=>absurd h (Nat.lt_irrefl 0)) (Y2 ys)
   have HS4:=hid hs4
   have HB4:=hid hb4
   clear hs4 hb4
   rw [hrun]
   simp only [Result.andThen]
   rw [Oper.upon_value]
   clear hrun
   go_wp2_with (fail)
   go_ret2
   obtain ⟨z1,z2⟩:=HFN.out w3 w4 HR3.out HG3.out HB4.out HS4.out
   exact ⟨rfl,z1,z2⟩
 | some ad =>
   by_cases hcx:c0=X
   ·obtain rfl:K=0:=by omega
    go_enter Tryz.func93,Tryz.ntmps93
    go_wp2_with (fail)
    refine HFI.out.mono ?_
    rintro e w2 ⟨rfl,rfl⟩
    go_wp2_with (first
     | (at_make;refine wpList_make_full _ rfl _ _ 37 rfl w.heap.size 5 i0 (.int .u8 0) 1 Tryz.underlying37 HI.out.1 HI.out.2.1 HI.out.2.2.1 .i64 .i64 _ _ 0 rfl rfl rfl rfl (by rw [HI.out.2.2.2];omega) (by unfold maxLen;omega) (Nat.le_refl _) ?_;intro w3 hr3 hg3;have c3:=(HMK.out w3 hr3 hg3).2.1;have HR3:=hid hr3;have HG3:=hid hg3;clear hr3 hg3))
    obtain ⟨w4,hrun,hs4,hb4⟩:=Zho (K:=0) (S:=nn - X) (C:=0) (sp:=some ad) 3 HIS.out (HMK.out w3 HR3.out HG3.out).1 (cs:=ys.map byteV) (by rw [List.length_map,HY.out.2]) HQ.out.2.1 (Zcs 0) (fun h=>absurd h (Nat.lt_irrefl 0)) (Y2 ys)
    have HS4:=hid hs4
    have HB4:=hid hb4
    clear hs4 hb4
    rw [hrun]
    simp only [Result.andThen]
    rw [Oper.upon_value]
    clear hrun
    go_wp2_with (fail)
    go_ret2
    obtain ⟨z1,z2⟩:=HFN.out w3 w4 HR3.out HG3.out HB4.out HS4.out
    exact ⟨rfl,z1,z2⟩
   ·go_enter Tryz.func93,Tryz.ntmps93
    go_wp2_with (fail)
    refine HFI.out.mono ?_
    rintro e w2 ⟨rfl,rfl⟩
    go_wp2_with (first
     | (at_make;refine wpList_make_full _ rfl _ _ 37 rfl w.heap.size 5 i0 (.int .u8 0) 1 Tryz.underlying37 HI.out.1 HI.out.2.1 HI.out.2.2.1 .i64 .i64 _ _ K rfl rfl rfl rfl (by rw [HI.out.2.2.2];omega) (by unfold maxLen;omega) (Nat.le_refl _) ?_;intro w3 hr3 hg3;have c3:=(HMK.out w3 hr3 hg3).2.1;have HR3:=hid hr3;have HG3:=hid hg3;clear hr3 hg3))
    obtain ⟨w4,hrun,hs4,hb4⟩:=Zho (K:=K) (S:=nn - X) (C:=c0 - X) (sp:=some (ad.add X)) 3 HIS.out (HMK.out w3 HR3.out HG3.out).1 (cs:=ys.map byteV) (by rw [List.length_map,HY.out.2]) HQ.out.2.1 (Zcs K) (fun _=>⟨_,rfl,(HMK.out w3 HR3.out HG3.out).2.2 _ rfl⟩) (Y2 ys)
    have HS4:=hid hs4
    have HB4:=hid hb4
    clear hs4 hb4
    rw [hrun]
    simp only [Result.andThen]
    rw [Oper.upon_value]
    clear hrun
    go_wp2_with (fail)
    go_ret2
    obtain ⟨z1,z2⟩:=HFN.out w3 w4 HR3.out HG3.out HB4.out HS4.out
    exact ⟨rfl,z1,z2⟩
end
end Go.Proofs.YtkelafkbmnjpeaaGreat
namespace Go.Proofs.YtkelafkbmnjpeaaGreat
open Go.Shelf
def keysDk_ren:Go.Shelf.Ren:=⟨fun | 7=>70 | 10=>123 | n=>n,fun | 23=>85 | 26=>9 | 3=>105 | 28=>123 | 0=>0 | 27=>122 | 33=>136 | 4=>4 | n=>n,fun | n=>n⟩
theorem keysDk:Go.Proofs.SlLaysZ.n7 Tryz.prog keysDk_ren:={
  mixed:=by kernel_rfl
  f7:=⟨Tryz.f70.name,by decide,Tryz.func70.trans (congrArg some (by kernel_rfl))⟩
  f10:=⟨Tryz.f123.name,by decide,Tryz.func123.trans (congrArg some (by kernel_rfl))⟩
  t0:=Tryz.underlying0
  a0:=Tryz.isAgg0
  z0:=Tryz.sizeOf0
  v0:=Tryz.zeroValue0
  t4:=Tryz.underlying4
  a4:=Tryz.isAgg4
  z4:=Tryz.sizeOf4
  v4:=Tryz.zeroValue4
  t23:=Tryz.underlying85
  a23:=Tryz.isAgg85
  z23:=Tryz.sizeOf85
  v23:=Tryz.zeroValue85
  t26:=Tryz.underlying9
  a26:=Tryz.isAgg9
  z26:=Tryz.sizeOf9
  v26:=Tryz.zeroValue9
  t27:=Tryz.underlying122
  a27:=Tryz.isAgg122
  z27:=Tryz.sizeOf122
  v27:=Tryz.zeroValue122
  t28:=Tryz.underlying123
  a28:=Tryz.isAgg123
  z28:=Tryz.sizeOf123
  v28:=Tryz.zeroValue123
  t33:=Tryz.underlying136
  a33:=Tryz.isAgg136
  z33:=Tryz.sizeOf136
  v33:=Tryz.zeroValue136 }
def sortedDk_ren:Go.Shelf.Ren:=⟨fun | 6=>69 | 8=>121 | 9=>122 | 11=>179 | 13=>181 | 12=>180 | 23=>254 | 24=>255 | 14=>245 | 15=>246 | 16=>247 | 17=>248 | 18=>249 | 19=>250 | 20=>251 | 21=>252 | 22=>253 | 25=>288 | 26=>289 | 27=>290 | 28=>291 | 29=>292 | 30=>293 | 31=>310 | n=>n,fun | 26=>9 | 28=>123 | 24=>50 | 0=>0 | 3=>3 | 37=>159 | 48=>41 | 50=>158 | 4=>4 | 40=>274 | 39=>273 | 45=>53 | 5=>5 | 9=>9 | 51=>299 | 55=>303 | 57=>313 | 58=>173 | 33=>136 | n=>n,fun | n=>n⟩
theorem sortedDk:Go.Proofs.SlLaysZ.n6 Tryz.prog sortedDk_ren:={
  mixed:=by kernel_rfl
  f6:=⟨Tryz.f69.name,by decide,Tryz.func69.trans (congrArg some (by kernel_rfl))⟩
  f8:=⟨Tryz.f121.name,by decide,Tryz.func121.trans (congrArg some (by kernel_rfl))⟩
  f11:=⟨Tryz.f179.name,by decide,Tryz.func179.trans (congrArg some (by kernel_rfl))⟩
  t0:=Tryz.underlying0
  a0:=Tryz.isAgg0
  z0:=Tryz.sizeOf0
  v0:=Tryz.zeroValue0
  t24:=Tryz.underlying50
  a24:=Tryz.isAgg50
  z24:=Tryz.sizeOf50
  v24:=Tryz.zeroValue50
  t26:=Tryz.underlying9
  a26:=Tryz.isAgg9
  z26:=Tryz.sizeOf9
  v26:=Tryz.zeroValue9
  t28:=Tryz.underlying123
  a28:=Tryz.isAgg123
  z28:=Tryz.sizeOf123
  v28:=Tryz.zeroValue123
  i26:=by kernel_rfl }
def sortDk_ren:Go.Shelf.Ren:=⟨fun | 6=>122 | 8=>181 | 9=>180 | 19=>254 | 20=>255 | 21=>245 | 22=>246 | 23=>247 | 24=>248 | 25=>249 | 26=>250 | 27=>251 | 28=>252 | 29=>253 | 36=>288 | 31=>289 | 32=>290 | 37=>291 | 38=>292 | 39=>293 | 41=>310 | n=>n,fun | 27=>50 | 29=>9 | 3=>3 | 32=>159 | 26=>50 | 0=>0 | 44=>41 | 46=>158 | 4=>4 | 36=>274 | 35=>273 | 41=>53 | 5=>5 | 9=>9 | 53=>299 | 57=>303 | 63=>313 | 64=>173 | n=>n,fun | n=>n⟩
theorem sortDk:Go.Proofs.SlLaysM.n6 Tryz.prog sortDk_ren:={
  mixed:=by kernel_rfl
  f6:=⟨Tryz.f122.name,by decide,Tryz.func122.trans (congrArg some (by kernel_rfl))⟩
  f8:=Tryz.func181.trans (congrArg some (by kernel_rfl))
  f9:=⟨Tryz.f180.name,by decide,Tryz.func180.trans (congrArg some (by kernel_rfl))⟩
  f19:=Tryz.func254.trans (congrArg some (by kernel_rfl))
  f20:=Tryz.func255.trans (congrArg some (by kernel_rfl))
  f21:=⟨Tryz.f245.name,by decide,Tryz.func245.trans (congrArg some (by kernel_rfl))⟩
  f22:=⟨Tryz.f246.name,by decide,Tryz.func246.trans (congrArg some (by kernel_rfl))⟩
  f23:=⟨Tryz.f247.name,by decide,Tryz.func247.trans (congrArg some (by kernel_rfl))⟩
  f24:=⟨Tryz.f248.name,by decide,Tryz.func248.trans (congrArg some (by kernel_rfl))⟩
  f25:=⟨Tryz.f249.name,by decide,Tryz.func249.trans (congrArg some (by kernel_rfl))⟩
  f26:=⟨Tryz.f250.name,by decide,Tryz.func250.trans (congrArg some (by kernel_rfl))⟩
  f27:=⟨Tryz.f251.name,by decide,Tryz.func251.trans (congrArg some (by kernel_rfl))⟩
  f28:=⟨Tryz.f252.name,by decide,Tryz.func252.trans (congrArg some (by kernel_rfl))⟩
  f29:=⟨Tryz.f253.name,by decide,Tryz.func253.trans (congrArg some (by kernel_rfl))⟩
  f31:=Tryz.func289.trans (congrArg some (by kernel_rfl))
  f32:=Tryz.func290.trans (congrArg some (by kernel_rfl))
  f36:=⟨Tryz.f288.name,by decide,Tryz.func288.trans (congrArg some (by kernel_rfl))⟩
  f37:=⟨Tryz.f291.name,by decide,Tryz.func291.trans (congrArg some (by kernel_rfl))⟩
  f38:=⟨Tryz.f292.name,by decide,Tryz.func292.trans (congrArg some (by kernel_rfl))⟩
  f39:=⟨Tryz.f293.name,by decide,Tryz.func293.trans (congrArg some (by kernel_rfl))⟩
  f41:=⟨Tryz.f310.name,by decide,Tryz.func310.trans (congrArg some (by kernel_rfl))⟩
  t0:=Tryz.underlying0
  a0:=Tryz.isAgg0
  z0:=Tryz.sizeOf0
  v0:=Tryz.zeroValue0
  t3:=Tryz.underlying3
  a3:=Tryz.isAgg3
  z3:=Tryz.sizeOf3
  v3:=Tryz.zeroValue3
  t4:=Tryz.underlying4
  a4:=Tryz.isAgg4
  z4:=Tryz.sizeOf4
  v4:=Tryz.zeroValue4
  t5:=Tryz.underlying5
  a5:=Tryz.isAgg5
  z5:=Tryz.sizeOf5
  v5:=Tryz.zeroValue5
  t9:=Tryz.underlying9
  a9:=Tryz.isAgg9
  z9:=Tryz.sizeOf9
  v9:=Tryz.zeroValue9
  t26:=Tryz.underlying50
  a26:=Tryz.isAgg50
  z26:=Tryz.sizeOf50
  v26:=Tryz.zeroValue50
  t27:=Tryz.underlying50
  a27:=Tryz.isAgg50
  z27:=Tryz.sizeOf50
  v27:=Tryz.zeroValue50
  t29:=Tryz.underlying9
  a29:=Tryz.isAgg9
  z29:=Tryz.sizeOf9
  v29:=Tryz.zeroValue9
  t32:=Tryz.underlying159
  a32:=Tryz.isAgg159
  z32:=Tryz.sizeOf159
  v32:=Tryz.zeroValue159
  t35:=Tryz.underlying273
  a35:=Tryz.isAgg273
  z35:=Tryz.sizeOf273
  v35:=Tryz.zeroValue273
  t36:=Tryz.underlying274
  a36:=Tryz.isAgg274
  z36:=Tryz.sizeOf274
  v36:=Tryz.zeroValue274
  t41:=Tryz.underlying53
  a41:=Tryz.isAgg53
  z41:=Tryz.sizeOf53
  v41:=Tryz.zeroValue53
  t44:=Tryz.underlying41
  a44:=Tryz.isAgg41
  z44:=Tryz.sizeOf41
  v44:=Tryz.zeroValue41
  t46:=Tryz.underlying158
  a46:=Tryz.isAgg158
  z46:=Tryz.sizeOf158
  v46:=Tryz.zeroValue158
  t53:=Tryz.underlying299
  a53:=Tryz.isAgg299
  z53:=Tryz.sizeOf299
  v53:=Tryz.zeroValue299
  t57:=Tryz.underlying303
  a57:=Tryz.isAgg303
  z57:=Tryz.sizeOf303
  v57:=Tryz.zeroValue303
  t63:=Tryz.underlying313
  a63:=Tryz.isAgg313
  z63:=Tryz.sizeOf313
  v63:=Tryz.zeroValue313
  t64:=Tryz.underlying173
  a64:=Tryz.isAgg173
  z64:=Tryz.sizeOf173
  v64:=Tryz.zeroValue173 }
end Go.Proofs.YtkelafkbmnjpeaaGreat
set_option maxHeartbeats 2000000
set_option maxRecDepth 100000
namespace Go.Proofs.YtkelafkbmnjpeaaGreat
open Go.RowKit Go.Maps Go.WideMaps Go.Sort Go.Shelf
theorem Zrv (m:Nat):AnyZ.SortsIn Tryz.prog sortedDk_ren Fence.wide m :=
 ⟨fun blk off cap ss W hH hblk hsz=>callsIn_wide.2 (AnyM.slices_Sort_string sortDk blk off cap ss W hH hblk hsz),fun p cap W=>callsIn_wide.2 (AnyM.slices_Sort_string_none sortDk p cap W)⟩
theorem Zud (mb:Option Nat) (W:World):CallsIn Fence.wide 5 Tryz.prog 70 #[.map mb] W fun e w'=>e=.returned (.func (.func 123) #[] #[.pointer (some ⟨W.heap.size,0,none⟩)])∧w'=W.alloc (.cells #[.map mb] 85) :=
 AnyZ.keys_in keysDk Fence.wide 5 trivial rfl mb W
theorem Zos {made:Nat} {loc:Nat→Nat} {b:Nat} {l:Dir} (w:World) (hown:Zdl w made loc b l) (hmax:l.length≤1000000000) :
 CallsIn Fence.wide 5 Tryz.prog 69 #[.func (.func 123) #[] #[.pointer (some ⟨w.heap.size,0,none⟩)]] (w.alloc (.cells #[.map (some b)] 85)) fun e w' =>
  ∃ (v:Value) (ss:List (List UInt8)),e=.returned v∧ss.Perm (l.map (·.1))∧w'.ownsRow (w.alloc (.cells #[.map (some b)] 85)).heap.size 9 1 v ss.length ((ss.mergeSort (fun x y=>decide (x≤y))).map encStr)∧(v=.slice none 0 0↔ss=[])∧Below (w.alloc (.cells #[.map (some b)] 85)).heap.size (w.alloc (.cells #[.map (some b)] 85)) w':=by
 have hbl:=World.ownsMap.lt hown
 have hD:Maps.size (encD (H:=Unit) l)=l.length:=Zb9 l
 have hseq:SeqGives Fence.wide 2 Tryz.prog 123 #[.pointer (some ⟨w.heap.size,0,none⟩)] encStr (fun ss=>ss.Perm (strKeys (encD (H:=Unit) l))) (Maps.size (encD (H:=Unit) l)) (w.alloc (.cells #[.map (some b)] 85)) :=
  AnyZ.keys_gives (ρ:=keysDk_ren) { keysDk with } Fence.wide _ trivial rfl (by omega) w.heap.size b l.length _ _ (by simp) (by simp) (Yp hown (Below.heap_alloc _ _ b hbl))
 rw [Zr4,hD] at hseq
 exact AnyZ.sorted_in sortedDk Fence.wide 5 trivial trivial trivial trivial rfl (by omega) (Zrv _) (enters_of Tryz.func122 (by kernel_rfl) rfl) 123 #[.pointer (some ⟨w.heap.size,0,none⟩)] trivial (enters_of Tryz.func123 (by kernel_rfl) rfl) _ l.length (by unfold maxLen;omega) (by omega) _ hseq
theorem before_lt:∀ {a b:List UInt8},bytesBefore a b=true→a < b
 | [],[],h=>by cases h
 | [],_ :: _,_=>List.Lex.nil
 | _ :: _,[],h=>by cases h
 | x :: r,y :: s,h=>by
   simp only [bytesBefore,Bool.or_eq_true,decide_eq_true_eq,Bool.and_eq_true,beq_iff_eq] at h
   rcases h with h | ⟨rfl,h⟩
   ·exact List.Lex.rel h
   ·exact List.Lex.cons (before_lt h)
theorem Zi3 {w:World} {made:Nat} {loc:Nat→Nat} {b n:Nat} {l:Dir} (h:OwnsN w made loc b n l):(l.map (·.1)).Pairwise (fun x y=>bytesBefore x y=true):=by
 obtain ⟨es,clock,hb,F,hs,hD⟩:=h
 have h1:=sorted_sorted lawStr.one _ (fit_keys F) (fit_apart lawStr F)
 unfold encD at hD
 injection hD with hD
 rw [←hD,List.pairwise_map] at h1
 rw [List.pairwise_map]
 exact h1
theorem Zue {l:List (List UInt8)} (h:l.Pairwise (fun x y=>bytesBefore x y=true)):l.mergeSort (fun x y=>decide (x≤y))=l:=by
 refine List.mergeSort_of_pairwise (h.imp fun hxy=>?_)
 rw [decide_eq_true_eq]
 exact List.le_of_lt (before_lt hxy)
section
variable {d:Nat} {own:Nat→Prop} {G:Geo} {m:Dk}
theorem Zrw (w:World) (h:DkAt w d own G m) (hF:DkFit m):Calls Tryz.prog 26 #[.pointer (some ⟨d,0,none⟩)] w fun e w' =>
 ∃ v,e=.returned v∧w'.ownsRow w.heap.size 9 1 v m.names.length ((m.names.map (·.1)).map strB)∧Grows w w':=by
 have c3:w.cell? ⟨d,3,none⟩=some (.map (some G.nb)):=h.cell 3
 have HK:=Lib.hid (callsIn_wide.1 (Zud (some G.nb) w))
 have HS:=Lib.hid (callsIn_wide.1 (Zos w h.rest.names hF.names))
 have HN:=Lib.hid (Zi3 h.rest.names)
 clear h hF
 go_enter Tryz.func26,Tryz.ntmps26
 go_wp2_with (fail)
 refine HK.out.mono ?_
 rintro e w1 ⟨rfl,rfl⟩
 clear HK
 go_wp2_with (fail)
 refine HS.out.mono ?_
 rintro e w2 ⟨v,ss,rfl,hp,hr,_,hb⟩
 have H2:=Lib.hid (And.intro hp (And.intro hr hb))
 clear hp hr hb HS
 go_wp2_with (fail)
 go_ret
 obtain ⟨hp,hr,hb⟩:=H2.out
 have hm:ss.mergeSort (fun x y=>decide (x≤y))=m.names.map (·.1):=by
  rw [←Zue HN.out]
  exact mergeSort_of_perm hp
 have hl:ss.length=m.names.length:=by rw [hp.length_eq,List.length_map]
 rw [hm,hl,World.size_alloc] at hr
 refine ⟨v,rfl,Zh hr (Nat.le_succ _),?_⟩
 exact (Zb w _).trans hb
end
end Go.Proofs.YtkelafkbmnjpeaaGreat
namespace Go.Proofs.YtkelafkbmnjpeaaGreat
open Go.ChangeShapes Go.WideShapes Go.ChangeAt Go.RowKit
section
variable {H:Type} {enc:TypeId×Value→H} {P:Program}
theorem Znb {t:TypeId} {v:Value} {d:DataW H} {p:List MemPlace} {W:World} (h:DataW.Trod enc P W 0 (fun _=>true) true t v d p):∀ x∈p,x.block < W.heap.size:=by
 obtain ⟨m,hm⟩:=h
 exact DataW.trod_lt m _ _ _ hm
theorem Zcy (hl:laidOutB P=true) {W W':World} (hb:Below W.heap.size W W') :
 ∀ {ts:List TypeId} {vs:List Value} {ds:List (DataW H)} {p:List MemPlace},(∀ t∈ts,P.readableRec t=true∧t < P.types.size) →
  DataW.TrodAll enc P W 0 (fun _=>true) true ts vs ds p→DataW.TrodAll enc P W' 0 (fun b=>decide (b < W.heap.size)) true ts vs ds p
 | [],[],[],_,_,h=>h
 | t :: ts,v :: vs,d :: ds,_,hr,h=>by
   obtain ⟨p,q,h1,h2,e⟩:=h
   have ht:=hr t (by simp)
   exact ⟨p,q,Below.trod hl ht.1 ht.2 h1 hb (Znb h1),Zcy hl hb (fun t' ht'=>hr t' (by simp [ht'])) h2,e⟩
 | [],_ :: _,_,_,_,h=>h.elim
 | [],[],_ :: _,_,_,h=>h.elim
 | _ :: _,[],_,_,_,h=>h.elim
 | _ :: _,_ :: _,[],_,_,h=>h.elim
end
theorem Zr8 {C:Checked} {os:Os} {f:FuncId} {fn:Func} {s:ChangeSpec} (H:Type) (enc:TypeId×Value→H) (own:ownKnob C.prog.godebug=none) (started:os.Started) (noInit:C.prog.inits.idxOf? f=none) (hfn:C.prog.funcs[f]?=some fn)
 (witness:∃ (w:World) (tape:Tape) (i:Input),w.os=os∧(w.forCall tape i).Shaped C.prog∧i.vars=[]∧Input.okWide C.prog (w.forCall tape i) .any w.heap.size f i ∧
   s.pre6 enc C.prog fn [] false (w.forCall tape i).memory i.args∧Assume.holds {} C.prog (lone (Frame.enter C.prog f i.args .normal) [] (w.forCall tape i)))
 (hl:laidOutB C.prog=true) (hr:∀ t∈fn.params.toList,C.prog.readableRec t=true∧t < C.prog.types.size) {tb:TypeId} (hres:fn.resultTypes=#[tb]) (hb:C.prog.underlying tb=some .bool)
 (hvars:s.vars=[]) (hspec:∀ ds:List (DataW H),ds.length=fn.params.size→s.fn H ds={ results:=[.lit (.bool true)],args:=ds })
 (walk:∀ (W:World) (base:Nat) (args:Array Value) (ds:List (DataW H)) (p:List MemPlace),(∀ (j:Nat) t v,fn.params[j]?=some t→args[j]?=some v→Value.okWide C.prog W .any base t v) →
   DataW.TrodAll enc C.prog W 0 (fun _=>true) true fn.params.toList args.toList ds p→(DataW.weightsEach C.prog fn.params.toList ds).all (·≤reachBytes)=true →
   Calls C.prog f args W fun e W'=>e=.returned (.bool true)∧Below W.heap.size W W') :
 ReturnsInHanded {} C os f .any (s.pre6 enc C.prog fn [] false) (s.post enc C.prog fn false true false false):=by
 refine returnsInHanded_of_change_sized own started noInit hfn witness ?_
 intro W base args ds gs before hval hW _ hsz _
 have hW':=hW
 obtain ⟨p,q,hA,hV,rfl,hfz,hnd⟩:=hW
 rw [hvars] at hV
 obtain ⟨rfl,rfl⟩:=trodVars_none hV
 have hlen:ds.length=fn.params.size:=by
  have:∀ {ts:List TypeId} {vs:List Value} {ds:List (DataW H)} {p:List MemPlace},DataW.TrodAll enc C.prog W 0 (fun _=>true) true ts vs ds p→ds.length=ts.length:=by
   intro ts
   induction ts with
   | nil=>intro vs ds p h;cases vs <;> cases ds <;> first | rfl | exact h.elim
   | cons t ts ih =>
     intro vs ds p h
     cases vs <;> cases ds <;> first | exact h.elim | skip
     obtain ⟨_,_,_,h2,_⟩:=h
     simp [ih h2]
  rw [this hA]
  simp
 have hsz':(DataW.weightsEach C.prog fn.params.toList ds).all (·≤reachBytes)=true:=by
  have e:s.plain.varTypes C.prog=[]:=by
   show s.vars.filterMap _=[]
   rw [hvars];rfl
  rw [e,List.append_nil,List.append_nil] at hsz
  exact hsz
 refine (walk W base args ds p hval hA hsz').mono fun e W' ⟨he,bel⟩=>?_
 subst he
 have hs:=hspec ds hlen
 refine ⟨_,rfl,ds,[],p++[],[],p,[],hW',?_,?_,?_,bel.frame _,fun h=>by cases h⟩
 ·rw [List.append_nil,hs,hres]
  exact trodAll_mk1 (shut_bool hb _)
 ·rw [List.append_nil,hs]
  exact Zcy hl bel hr hA
 ·rw [List.append_nil,hs,hvars]
  rfl
theorem Zkp {P:Program} {ts:List TypeId} (h:ts.all (fun t=>P.readableRec t&&decide (t < P.types.size))=true):∀ t∈ts,P.readableRec t=true∧t < P.types.size:=fun t ht=>by
 have:=List.all_eq_true.1 h t ht
 simpa using this
/-! What an argument is, opened. -/
section
variable {H:Type} {enc:TypeId×Value→H} {P:Program} {W:World} {base:Nat} {r:Reach}
structure Came (W:World) (A:Option Addr) (n c:Nat) (bs:List UInt8):Prop where
 bytes:Bytes W W.heap.size A n bs
 cap:n≤c
 reach:c≤140737488351232
 bare:A=none→c=0
theorem Zr9 {n:Int} (h:(Lit.int .u8 n).wf=true):((UInt8.ofNat n.toNat).toNat:Int)=n:=by
 have:=bounds_u8 h
 rw [UInt8.toNat_ofNat']
 omega
end
end Go.Proofs.YtkelafkbmnjpeaaGreat
namespace Go.Proofs.YtkelafkbmnjpeaaGreat
end Go.Proofs.YtkelafkbmnjpeaaGreat
