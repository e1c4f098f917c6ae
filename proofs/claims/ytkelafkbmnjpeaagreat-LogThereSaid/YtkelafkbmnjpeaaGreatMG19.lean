/-
  Texts that the statements lean on, one behind the other.
-/
import Derived.Test.YtkelafkbmnjpeaaGreatMG18
import Derived.Test.YtkelafkbmnjpeaaGreatMG01
import Derived.LoopTactic
import Derived.IntWalk
import Derived.OwnWalk
import Derived.WalkLawsBesides
import Derived.Lib.Hide
import Derived.Lib.LazyBuf
import Derived.Test.YtkelafkbmnjpeaaGreatMG09
import Derived.Test.YtkelafkbmnjpeaaGreatMG10
import Derived.Laws.Rows
import Derived.Test.YtkelafkbmnjpeaaGreatMG16
import Derived.Test.YtkelafkbmnjpeaaGreatMG03
set_option linter.unusedSimpArgs false
set_option linter.unusedVariables false
set_option maxHeartbeats 4000000
set_option maxRecDepth 100000
namespace Go.Proofs.YtkelafkbmnjpeaaGreat
open Go.Lib (hid)
open Go.RowKit

def Jp (k:Int):Int×Int:=if k=1∨k=2 then (8,99999999) else if k=3∨k=4 then (0,0) else (0,-1)
theorem Yt (k:Int) (w:World):Calls Tryz.prog 126 #[.int .i64 k] w fun e w'=>e=.returned (.tuple #[.int .i64 (Jp k).1,.int .i64 (Jp k).2])∧w=w':=by
 by_cases h1:k=1
 ·subst h1
  go_enter Tryz.func126,Tryz.ntmps126
  go_wp2_with (fail)
  go_ret2
  exact ⟨rfl,rfl⟩
 by_cases h2:k=2
 ·subst h2
  go_enter Tryz.func126,Tryz.ntmps126
  go_wp2_with (fail)
  go_ret2
  exact ⟨rfl,rfl⟩
 by_cases h3:k=3
 ·subst h3
  go_enter Tryz.func126,Tryz.ntmps126
  go_wp2_with (fail)
  go_ret2
  exact ⟨rfl,rfl⟩
 by_cases h4:k=4
 ·subst h4
  go_enter Tryz.func126,Tryz.ntmps126
  go_wp2_with (fail)
  go_ret2
  exact ⟨rfl,rfl⟩
 go_enter Tryz.func126,Tryz.ntmps126
 go_wp2_with (fail)
 go_ret2
 have e:Jp k=(0,-1):=by unfold Jp;rw [if_neg (by omega),if_neg (by omega)]
 rw [e]
 exact ⟨rfl,rfl⟩

def nameV (c:UInt8) (n i:Nat):Array Value:=((c :: List.replicate (8 - i) 0++digs n i).map byteV).toArray
theorem Zg0 (c:UInt8) (n i:Nat) (h:i≤8):(nameV c n i).size=9:=by
 simp [nameV,Yi]
 omega
theorem Zuv (m:Nat) (x:UInt8) (r:List UInt8):∀ c:UInt8,(c :: List.replicate (m+1) 0++r).set (m+1) x=c :: List.replicate m 0++x :: r:=by
 induction m with
 | zero=>intro c;rfl
 | succ m ih =>
   intro c
   have:=ih 0
   rw [List.replicate_succ,List.cons_append,List.set_cons_succ]
   rw [this]
   simp [List.replicate_succ]
theorem Zg1 (c:UInt8) (n i:Nat) (h:i < 8):(nameV c n i).setIfInBounds (8 - i) (.int .u8 ((UInt8.ofNat (48+n / 10 ^ i % 10)).toNat:Int))=nameV c n (i+1):=by
 obtain ⟨m,hm⟩:∃ m,8 - i=m+1:=⟨8 - i - 1,by omega⟩
 unfold nameV
 rw [hm,show 8 - (i+1)=m by omega,digs,←Zuv m _ (digs n i) c,List.map_set,List.setIfInBounds_toArray]
 rfl


theorem Zuw (n:Nat) (hn:n≤99999999) (w:World) :
 Calls Tryz.prog 73 #[.int .i64 1,.int .i64 (n:Int)] w fun e w'=>e=.returned (.string ⟨(115 :: digs n 8:List UInt8).toArray⟩)∧Grows w w':=by
 have hmk:∀ w,(Instr.makeSlice 37 (.int .i64 9) (.int .i64 9)).run Tryz.prog w=.ok (.slice (some ⟨w.heap.size,0,none⟩) 9 9) (w.alloc (.cells #[.int .u8 0,.int .u8 0,.int .u8 0,.int .u8 0,.int .u8 0,.int .u8 0,.int .u8 0,.int .u8 0,.int .u8 0] 5)):=fun _=>by kernel_rfl
 have hw0:=Whole.made w 5 #[.int .u8 0,.int .u8 0,.int .u8 0,.int .u8 0,.int .u8 0,.int .u8 0,.int .u8 0,.int .u8 0,.int .u8 0]
 have hg0:=Grows.refl w |>.alloc (Nat.le_refl _) (.cells #[.int .u8 0,.int .u8 0,.int .u8 0,.int .u8 0,.int .u8 0,.int .u8 0,.int .u8 0,.int .u8 0,.int .u8 0] 5)
 obtain ⟨w0,he0⟩:∃ w0,w.alloc (.cells #[.int .u8 0,.int .u8 0,.int .u8 0,.int .u8 0,.int .u8 0,.int .u8 0,.int .u8 0,.int .u8 0,.int .u8 0] 5)=w0:=⟨_,rfl⟩
 have hlt0:w.heap.size < w0.heap.size:=by rw [←he0];simp
 have hmk1:=hmk w
 rw [he0] at hmk1 hw0 hg0
 have hcp:(Builtin.copy_ #[37,9] 3 #[.slice (some ⟨w.heap.size,0,none⟩) 9 9,.string ((⟨#[115,104,109,116]⟩:ByteArray).extract 0 1)]).run Tryz.prog w0=.ok (goInt 1) (w0.setCell ⟨w.heap.size,0,none⟩ (.int .u8 115)):=by
  rw [show (⟨#[115,104,109,116]⟩:ByteArray).extract 0 1=⟨#[115]⟩ by rfl]
  refine (run_copy_string (P:=Tryz.prog) w0 37 9 3 5 w.heap.size 0 9 9 ⟨#[115]⟩ Tryz.underlying37 (fun _=>by kernel_rfl) (by decide) (fun j hj=>?_) (fun j hj=>?_)).trans rfl
  ·have hj0:j=0:=Nat.lt_one_iff.1 hj
   subst hj0
   have:=hw0.cell 0
   simp only [List.getElem?_toArray,List.getElem?_cons_zero] at this
   rw [Nat.zero_add,this]
   rfl
  ·exact hw0.free _
 have hw1:=hw0.put 0 (.int .u8 115)
 have hg1:Grows w (w0.setCell ⟨w.heap.size,0,none⟩ (.int .u8 115)):=Below.setCell (p:=⟨w.heap.size,0,none⟩) hg0 (Nat.le_refl _) _
 obtain ⟨w1,he1⟩:∃ w1,w0.setCell ⟨w.heap.size,0,none⟩ (.int .u8 115)=w1:=⟨_,rfl⟩
 rw [he1] at hcp hw1 hg1
 have hw2:Whole w1 w.heap.size 5 (nameV 115 n 0):=hw1
 have HW:=hid hw2
 have HG:=hid hg1
 have hnn:¬ (99999999:Int) < (n:Int):=by omega
 have hn0:¬ (n:Int) < 0:=by omega
 clear hmk hw0 hg0 hw1 hg1 hw2 hlt0
 go_enter Tryz.func73,Tryz.ntmps73
 go_wp2_with (first | (go_at_call 126;refine (Yt 1 _).mono ?_;rintro e w' ⟨rfl,rfl⟩;rw [show Jp 1=(8,99999999) from rfl]) | fail)
 go_loopw [1,31] (fun a i wr=>∃ (j:Nat),j≤8∧i=.int .i64 (j:Int)∧a=.int .i64 ((n / 10 ^ j:Nat):Int)∧Hid (Whole wr w.heap.size 5 (nameV 115 n j))∧Hid (Grows w wr)) (fun _ i _=>8 - (intOf i).toNat)
 case atStart=>exact ⟨0,by omega,rfl,by simp,HW,HG⟩
 case round =>
  obtain ⟨j,hj,rfl,rfl,HR,HB⟩:=hrel
  by_cases hlt:j < 8
  ·have hlt':(j:Int) < 8:=by omega
   obtain ⟨q,hq⟩:∃ q:Nat,8 - j=q:=⟨_,rfl⟩
   obtain ⟨X,hX⟩:∃ X:Nat,n / 10 ^ j=X:=⟨_,rfl⟩
   have hX2:n / 10 ^ (j+1)=X / 10:=by rw [Nat.pow_succ,←Nat.div_div_eq_div_mul,hX]
   have hXl:X≤99999999:=by rw [←hX];exact Nat.le_trans (Nat.div_le_self _ _) hn
   have hq1:IntKind.i64.wrap (8 - (j:Int))=(q:Int):=by rw [IntWalk.i64_in _ ⟨by omega,by omega⟩];omega
   have hq2:wrap64 (8 - (j:Int))=(q:Int):=by rw [←IntWalk.i64_left];exact hq1
   have hq9:q < 9:=by omega
   have hcell:=HR.out.cell q
   have hset:=Zg1 115 n j hlt
   rw [hX,hq] at hset
   obtain ⟨old,hold⟩:∃ old,(nameV 115 n j)[q]?=some old:=⟨_,Array.getElem?_eq_getElem (by rw [Zg0 115 n j hj];exact hq9)⟩
   rw [hold] at hcell
   have hfree:=HR.out.free q
   have hput:=HR.out.put q (.int .u8 ((UInt8.ofNat (48+X % 10)).toNat:Int))
   rw [hset] at hput
   have HP:=hid hput
   have hd:((UInt8.ofNat (48+X % 10)).toNat:Int)=48+(X:Int) % 10:=by
    rw [Zfg _ (Nat.mod_lt _ (by omega))]
    omega
   rw [hd] at HP
   have hm1:IntKind.i64.wrap ((X:Int).tmod 10)=(X:Int) % 10:=by rw [Int.tmod_eq_emod_of_nonneg (by omega),IntWalk.i64_in _ ⟨by omega,by omega⟩]
   have HX:=hid hX
   have HX2:=hid hX2
   have HQ:=hid hq
   rw [hX]
   clear hset hput hd hold hX hX2 hq
   go_wp2_with (fail)
   refine ⟨⟨j+1,by omega,rfl,?_,hid HP.out,hid (Below.setCell (p:=⟨w.heap.size,q,none⟩) HB.out (Nat.le_refl _) _)⟩,by simp [intOf];omega⟩
   rw [HX2.out]
   rfl
  ·obtain rfl:j=8:=by omega
   have hs:=Z4 (HR.out.sl (115 :: digs n 8) (by unfold nameV;rfl) (n:=9) (by rw [List.length_cons,Yi]))
   have HS:=hid hs
   go_wp2_with (fail)
   go_ret
   exact ⟨rfl,HB.out⟩

theorem Zux (n:Nat) (hn:n≤99999999) (w:World) :
 Calls Tryz.prog 73 #[.int .i64 2,.int .i64 (n:Int)] w fun e w'=>e=.returned (.string ⟨(104 :: digs n 8:List UInt8).toArray⟩)∧Grows w w':=by
 have hmk:∀ w,(Instr.makeSlice 37 (.int .i64 9) (.int .i64 9)).run Tryz.prog w=.ok (.slice (some ⟨w.heap.size,0,none⟩) 9 9) (w.alloc (.cells #[.int .u8 0,.int .u8 0,.int .u8 0,.int .u8 0,.int .u8 0,.int .u8 0,.int .u8 0,.int .u8 0,.int .u8 0] 5)):=fun _=>by kernel_rfl
 have hw0:=Whole.made w 5 #[.int .u8 0,.int .u8 0,.int .u8 0,.int .u8 0,.int .u8 0,.int .u8 0,.int .u8 0,.int .u8 0,.int .u8 0]
 have hg0:=Grows.refl w |>.alloc (Nat.le_refl _) (.cells #[.int .u8 0,.int .u8 0,.int .u8 0,.int .u8 0,.int .u8 0,.int .u8 0,.int .u8 0,.int .u8 0,.int .u8 0] 5)
 obtain ⟨w0,he0⟩:∃ w0,w.alloc (.cells #[.int .u8 0,.int .u8 0,.int .u8 0,.int .u8 0,.int .u8 0,.int .u8 0,.int .u8 0,.int .u8 0,.int .u8 0] 5)=w0:=⟨_,rfl⟩
 have hlt0:w.heap.size < w0.heap.size:=by rw [←he0];simp
 have hmk1:=hmk w
 rw [he0] at hmk1 hw0 hg0
 have hcp:(Builtin.copy_ #[37,9] 3 #[.slice (some ⟨w.heap.size,0,none⟩) 9 9,.string ((⟨#[115,104,109,116]⟩:ByteArray).extract 1 2)]).run Tryz.prog w0=.ok (goInt 1) (w0.setCell ⟨w.heap.size,0,none⟩ (.int .u8 104)):=by
  rw [show (⟨#[115,104,109,116]⟩:ByteArray).extract 1 2=⟨#[104]⟩ by rfl]
  refine (run_copy_string (P:=Tryz.prog) w0 37 9 3 5 w.heap.size 0 9 9 ⟨#[104]⟩ Tryz.underlying37 (fun _=>by kernel_rfl) (by decide) (fun j hj=>?_) (fun j hj=>?_)).trans rfl
  ·have hj0:j=0:=Nat.lt_one_iff.1 hj
   subst hj0
   have:=hw0.cell 0
   simp only [List.getElem?_toArray,List.getElem?_cons_zero] at this
   rw [Nat.zero_add,this]
   rfl
  ·exact hw0.free _
 have hw1:=hw0.put 0 (.int .u8 104)
 have hg1:Grows w (w0.setCell ⟨w.heap.size,0,none⟩ (.int .u8 104)):=Below.setCell (p:=⟨w.heap.size,0,none⟩) hg0 (Nat.le_refl _) _
 obtain ⟨w1,he1⟩:∃ w1,w0.setCell ⟨w.heap.size,0,none⟩ (.int .u8 104)=w1:=⟨_,rfl⟩
 rw [he1] at hcp hw1 hg1
 have hw2:Whole w1 w.heap.size 5 (nameV 104 n 0):=hw1
 have HW:=hid hw2
 have HG:=hid hg1
 have hnn:¬ (99999999:Int) < (n:Int):=by omega
 have hn0:¬ (n:Int) < 0:=by omega
 clear hmk hw0 hg0 hw1 hg1 hw2 hlt0
 go_enter Tryz.func73,Tryz.ntmps73
 go_wp2_with (first | (go_at_call 126;refine (Yt 2 _).mono ?_;rintro e w' ⟨rfl,rfl⟩;rw [show Jp 2=(8,99999999) from rfl]) | fail)
 go_loopw [1,31] (fun a i wr=>∃ (j:Nat),j≤8∧i=.int .i64 (j:Int)∧a=.int .i64 ((n / 10 ^ j:Nat):Int)∧Hid (Whole wr w.heap.size 5 (nameV 104 n j))∧Hid (Grows w wr)) (fun _ i _=>8 - (intOf i).toNat)
 case atStart=>exact ⟨0,by omega,rfl,by simp,HW,HG⟩
 case round =>
  obtain ⟨j,hj,rfl,rfl,HR,HB⟩:=hrel
  by_cases hlt:j < 8
  ·have hlt':(j:Int) < 8:=by omega
   obtain ⟨q,hq⟩:∃ q:Nat,8 - j=q:=⟨_,rfl⟩
   obtain ⟨X,hX⟩:∃ X:Nat,n / 10 ^ j=X:=⟨_,rfl⟩
   have hX2:n / 10 ^ (j+1)=X / 10:=by rw [Nat.pow_succ,←Nat.div_div_eq_div_mul,hX]
   have hXl:X≤99999999:=by rw [←hX];exact Nat.le_trans (Nat.div_le_self _ _) hn
   have hq1:IntKind.i64.wrap (8 - (j:Int))=(q:Int):=by rw [IntWalk.i64_in _ ⟨by omega,by omega⟩];omega
   have hq2:wrap64 (8 - (j:Int))=(q:Int):=by rw [←IntWalk.i64_left];exact hq1
   have hq9:q < 9:=by omega
   have hcell:=HR.out.cell q
   have hset:=Zg1 104 n j hlt
   rw [hX,hq] at hset
   obtain ⟨old,hold⟩:∃ old,(nameV 104 n j)[q]?=some old:=⟨_,Array.getElem?_eq_getElem (by rw [Zg0 104 n j hj];exact hq9)⟩
   rw [hold] at hcell
   have hfree:=HR.out.free q
   have hput:=HR.out.put q (.int .u8 ((UInt8.ofNat (48+X % 10)).toNat:Int))
   rw [hset] at hput
   have HP:=hid hput
   have hd:((UInt8.ofNat (48+X % 10)).toNat:Int)=48+(X:Int) % 10:=by
    rw [Zfg _ (Nat.mod_lt _ (by omega))]
    omega
   rw [hd] at HP
   have hm1:IntKind.i64.wrap ((X:Int).tmod 10)=(X:Int) % 10:=by rw [Int.tmod_eq_emod_of_nonneg (by omega),IntWalk.i64_in _ ⟨by omega,by omega⟩]
   have HX:=hid hX
   have HX2:=hid hX2
   have HQ:=hid hq
   rw [hX]
   clear hset hput hd hold hX hX2 hq
   go_wp2_with (fail)
   refine ⟨⟨j+1,by omega,rfl,?_,hid HP.out,hid (Below.setCell (p:=⟨w.heap.size,q,none⟩) HB.out (Nat.le_refl _) _)⟩,by simp [intOf];omega⟩
   rw [HX2.out]
   rfl
  ·obtain rfl:j=8:=by omega
   have hs:=Z4 (HR.out.sl (104 :: digs n 8) (by unfold nameV;rfl) (n:=9) (by rw [List.length_cons,Yi]))
   have HS:=hid hs
   go_wp2_with (fail)
   go_ret
   exact ⟨rfl,HB.out⟩

theorem Zk1 (w:World) :
 Calls Tryz.prog 73 #[.int .i64 3,.int .i64 0] w fun e w'=>e=.returned (.string ⟨([109]:List UInt8).toArray⟩)∧Grows w w':=by
 have hmk:∀ w,(Instr.makeSlice 37 (.int .i64 1) (.int .i64 1)).run Tryz.prog w=.ok (.slice (some ⟨w.heap.size,0,none⟩) 1 1) (w.alloc (.cells #[.int .u8 0] 5)):=fun _=>by kernel_rfl
 have hw0:=Whole.made w 5 #[.int .u8 0]
 have hg0:=Grows.refl w |>.alloc (Nat.le_refl _) (.cells #[.int .u8 0] 5)
 obtain ⟨w0,he0⟩:∃ w0,w.alloc (.cells #[.int .u8 0] 5)=w0:=⟨_,rfl⟩
 have hmk1:=hmk w
 rw [he0] at hmk1 hw0 hg0
 have hcp:(Builtin.copy_ #[37,9] 3 #[.slice (some ⟨w.heap.size,0,none⟩) 1 1,.string ((⟨#[115,104,109,116]⟩:ByteArray).extract 2 3)]).run Tryz.prog w0=.ok (goInt 1) (w0.setCell ⟨w.heap.size,0,none⟩ (.int .u8 109)):=by
  rw [show (⟨#[115,104,109,116]⟩:ByteArray).extract 2 3=⟨#[109]⟩ by rfl]
  refine (run_copy_string (P:=Tryz.prog) w0 37 9 3 5 w.heap.size 0 1 1 ⟨#[109]⟩ Tryz.underlying37 (fun _=>by kernel_rfl) (by decide) (fun j hj=>?_) (fun j hj=>?_)).trans rfl
  ·have hj0:j=0:=Nat.lt_one_iff.1 hj
   subst hj0
   have:=hw0.cell 0
   simp only [List.getElem?_toArray,List.getElem?_cons_zero] at this
   rw [Nat.zero_add,this]
   rfl
  ·exact hw0.free _
 have hw1:=hw0.put 0 (.int .u8 109)
 have hg1:Grows w (w0.setCell ⟨w.heap.size,0,none⟩ (.int .u8 109)):=Below.setCell (p:=⟨w.heap.size,0,none⟩) hg0 (Nat.le_refl _) _
 obtain ⟨w1,he1⟩:∃ w1,w0.setCell ⟨w.heap.size,0,none⟩ (.int .u8 109)=w1:=⟨_,rfl⟩
 rw [he1] at hcp hw1 hg1
 have hs:=Z4 (hw1.sl [109] rfl (n:=1) rfl)
 have HG:=hid hg1
 clear hmk hw0 hg0 hw1 hg1
 go_enter Tryz.func73,Tryz.ntmps73
 go_wp2_with (first | (go_at_call 126;refine (Yt 3 _).mono ?_;rintro e w' ⟨rfl,rfl⟩;rw [show Jp 3=(0,0) from rfl]) | fail)
 go_loopw [31] (fun i wr=>i=.int .i64 0∧wr=w1) (fun _ _=>0)
 case atStart=>exact ⟨rfl,rfl⟩
 case round =>
  obtain ⟨rfl,rfl⟩:=hrel
  go_wp2_with (fail)
  go_ret
  exact ⟨rfl,HG.out⟩

theorem Zp4 (w:World) :
 Calls Tryz.prog 73 #[.int .i64 4,.int .i64 0] w fun e w'=>e=.returned (.string ⟨([116]:List UInt8).toArray⟩)∧Grows w w':=by
 have hmk:∀ w,(Instr.makeSlice 37 (.int .i64 1) (.int .i64 1)).run Tryz.prog w=.ok (.slice (some ⟨w.heap.size,0,none⟩) 1 1) (w.alloc (.cells #[.int .u8 0] 5)):=fun _=>by kernel_rfl
 have hw0:=Whole.made w 5 #[.int .u8 0]
 have hg0:=Grows.refl w |>.alloc (Nat.le_refl _) (.cells #[.int .u8 0] 5)
 obtain ⟨w0,he0⟩:∃ w0,w.alloc (.cells #[.int .u8 0] 5)=w0:=⟨_,rfl⟩
 have hmk1:=hmk w
 rw [he0] at hmk1 hw0 hg0
 have hcp:(Builtin.copy_ #[37,9] 3 #[.slice (some ⟨w.heap.size,0,none⟩) 1 1,.string ((⟨#[115,104,109,116]⟩:ByteArray).extract 3 4)]).run Tryz.prog w0=.ok (goInt 1) (w0.setCell ⟨w.heap.size,0,none⟩ (.int .u8 116)):=by
  rw [show (⟨#[115,104,109,116]⟩:ByteArray).extract 3 4=⟨#[116]⟩ by rfl]
  refine (run_copy_string (P:=Tryz.prog) w0 37 9 3 5 w.heap.size 0 1 1 ⟨#[116]⟩ Tryz.underlying37 (fun _=>by kernel_rfl) (by decide) (fun j hj=>?_) (fun j hj=>?_)).trans rfl
  ·have hj0:j=0:=Nat.lt_one_iff.1 hj
   subst hj0
   have:=hw0.cell 0
   simp only [List.getElem?_toArray,List.getElem?_cons_zero] at this
   rw [Nat.zero_add,this]
   rfl
  ·exact hw0.free _
 have hw1:=hw0.put 0 (.int .u8 116)
 have hg1:Grows w (w0.setCell ⟨w.heap.size,0,none⟩ (.int .u8 116)):=Below.setCell (p:=⟨w.heap.size,0,none⟩) hg0 (Nat.le_refl _) _
 obtain ⟨w1,he1⟩:∃ w1,w0.setCell ⟨w.heap.size,0,none⟩ (.int .u8 116)=w1:=⟨_,rfl⟩
 rw [he1] at hcp hw1 hg1
 have hs:=Z4 (hw1.sl [116] rfl (n:=1) rfl)
 have HG:=hid hg1
 clear hmk hw0 hg0 hw1 hg1
 go_enter Tryz.func73,Tryz.ntmps73
 go_wp2_with (first | (go_at_call 126;refine (Yt 4 _).mono ?_;rintro e w' ⟨rfl,rfl⟩;rw [show Jp 4=(0,0) from rfl]) | fail)
 go_loopw [31] (fun i wr=>i=.int .i64 0∧wr=w1) (fun _ _=>0)
 case atStart=>exact ⟨rfl,rfl⟩
 case round =>
  obtain ⟨rfl,rfl⟩:=hrel
  go_wp2_with (fail)
  go_ret
  exact ⟨rfl,HG.out⟩

theorem Zg2 (k n:Int) (w:World) :
 Calls Tryz.prog 73 #[.int .i64 k,.int .i64 n] w fun e w'=>e=.returned (.string ⟨(ofP k n).toArray⟩)∧Grows w w':=by
 have key:∀ m:Int,(Jp k).2=m→(n < 0∨m < n)→Calls Tryz.prog 73 #[.int .i64 k,.int .i64 n] w fun e w'=>e=.returned (.string ⟨([]:List UInt8).toArray⟩)∧Grows w w':=fun m hm hn=>by
  by_cases h0:n < 0
  ·go_enter Tryz.func73,Tryz.ntmps73
   go_wp2_with (first | (go_at_call 126;refine (Yt k _).mono ?_;rintro e w' ⟨rfl,rfl⟩) | fail)
   go_ret
   exact ⟨rfl,Grows.refl _⟩
  ·have h1:m < n:=by omega
   go_enter Tryz.func73,Tryz.ntmps73
   go_wp2_with (first | (go_at_call 126;refine (Yt k _).mono ?_;rintro e w' ⟨rfl,rfl⟩;rw [hm]) | fail)
   go_ret
   exact ⟨rfl,Grows.refl _⟩
 by_cases hn:n < 0∨n > 99999999
 ·have e:ofP k n=[]:=by unfold ofP;rw [if_pos hn]
  rw [e]
  refine key _ rfl ?_
  rcases hn with h | h
  ·exact .inl h
  ·right
   unfold Jp
   repeat' split
   all_goals omega
 ·obtain ⟨m,rfl⟩:∃ m:Nat,n=(m:Int):=⟨n.toNat,by omega⟩
  by_cases h1:k=1
  ·subst h1
   have e:ofP 1 (m:Int)=115 :: digs m 8:=by unfold ofP;rw [if_neg hn,if_pos rfl,Int.toNat_natCast]
   rw [e]
   exact Zuw m (by omega) w
  ·by_cases h2:k=2
   ·subst h2
    have e:ofP 2 (m:Int)=104 :: digs m 8:=by unfold ofP;rw [if_neg hn,if_neg (by decide),if_pos rfl,Int.toNat_natCast]
    rw [e]
    exact Zux m (by omega) w
   ·by_cases h3:k=3∧(m:Int)=0
    ·obtain ⟨rfl,hm⟩:=h3
     rw [hm]
     exact Zk1 w
    ·by_cases h4:k=4∧(m:Int)=0
     ·obtain ⟨rfl,hm⟩:=h4
      rw [hm]
      exact Zp4 w
     ·have e:ofP k (m:Int)=[]:=by unfold ofP;rw [if_neg hn,if_neg h1,if_neg h2,if_neg h3,if_neg h4]
      rw [e]
      refine key _ rfl (.inr ?_)
      unfold Jp
      rw [if_neg (by omega)]
      split <;> simp only <;> omega
end Go.Proofs.YtkelafkbmnjpeaaGreat

set_option maxHeartbeats 4000000
set_option maxRecDepth 100000
namespace Go.Proofs.YtkelafkbmnjpeaaGreat
open Go.Lib (hid)
open Go.RowKit

def nmS (n:Int):Nm:=ofP 1 n
def segV (d:Nat) (n:Int):Array Value:=#[.pointer (some ⟨d,0,none⟩),.int .i64 n,.string ⟨(nmS n).toArray⟩]
def Zy (n:Int):List UInt8:=9 :: numB n 4
theorem Yh (n:Int):(Zy n).length=5:=by unfold Zy;rw [List.length_cons,Z1]

theorem Zby (w:World) (d:Nat) (n:Int) :
 Calls Tryz.prog 128 #[.pointer (some ⟨d,0,none⟩),.int .i64 n] w fun e w'=>e=.returned (.agg (segV d n))∧Grows w w':=by
 unfold segV nmS
 have HO:=hid (fun w'=>Zg2 1 n w')
 obtain ⟨s,hs⟩:∃ s:ByteArray,(⟨(ofP 1 n).toArray⟩:ByteArray)=s:=⟨_,rfl⟩
 rw [hs] at HO ⊢
 clear hs
 go_enter Tryz.func128,Tryz.ntmps128
 go_wp2_with (fail)
 refine (HO.out _).mono ?_
 rintro e w1 ⟨rfl,hg⟩
 have hm:=Grows.whole hg (Whole.made w 176 #[.pointer none,.int .i64 0,.string ⟨#[]⟩])
 have HG:=hid (Grows.trans (Zb w _) hg)
 have c0:=hm.cell 0
 have f0:=hm.free 0
 have c1:=hm.cell 1
 have f1:=hm.free 1
 have c2:=hm.cell 2
 have f2:=hm.free 2
 simp only [Gt] at c0 c1 c2
 have HM:=hid hm
 clear hm hg
 go_wp2_with (fail)
 have hp:=((HM.out.put 0 (.pointer (some ⟨d,0,none⟩))).put 1 (.int .i64 n)).put 2 (.string s)
 simp only [List.setIfInBounds_toArray,List.set_cons_zero,List.set_cons_succ] at hp
 refine bodyPost_ret (results_cell_row rfl _ _ w.heap.size _ _ (0,0) _ rfl hp Tryz.underlying176 rfl (by kernel_rfl)) rfl ?_
 refine ⟨rfl,?_⟩
 exact ((HG.out.setCell (Nat.le_refl _) _).setCell (Nat.le_refl _) _).setCell (Nat.le_refl _) _
theorem Yw (n:Int):(nmS n).length≤16:=by
 unfold nmS ofP
 repeat' split
 all_goals simp [Yi]
theorem Zga (n:Int):(#[.int .u8 9,.int .u8 (n / 16777216 % 256),.int .u8 (n / 65536 % 256),.int .u8 (n / 256 % 256),.int .u8 (n % 256)]:Array Value)=((Zy n).map byteV).toArray:=by
 have h3:=Yn (n / 256 ^ 3)
 have h2:=Yn (n / 256 ^ 2)
 have h1:=Yn (n / 256 ^ 1)
 have h0:=Yn (n / 256 ^ 0)
 unfold Zy numB numB numB numB numB
 simp only [List.map_cons,List.map_nil,byteV]
 rw [h3,h2,h1,h0]
 have e3:n / 256 ^ 3 % 256=n / 16777216 % 256:=by rw [show (256:Int) ^ 3=16777216 by decide]
 have e2:n / 256 ^ 2 % 256=n / 65536 % 256:=by rw [show (256:Int) ^ 2=65536 by decide]
 have e1:n / 256 ^ 1 % 256=n / 256 % 256:=by rw [show (256:Int) ^ 1=256 by decide]
 have e0:n / 256 ^ 0 % 256=n % 256:=by rw [show (256:Int) ^ 0=1 by decide,Int.ediv_one]
 rw [e3,e2,e1,e0]
 rfl
section
variable {B d K:Nat} {w0 w:World} {out:Nat→Prop} {m:Dk}
theorem Zco (w:World) (n:Int) (h:DkIn B w0 w d out m) {v:Int} {b:Bool} (hv:m.size (nmS n)=(v,b)) :
 Calls Tryz.prog 145 #[.agg (segV d n)] w fun e w'=>e=.returned (.int .i64 v)∧Grows w w':=by
 have hm:=Whole.made w 176 (segV d n)
 have HS:=hid (Zhx (nmS n) (h.grow (Zb w (.cells (segV d n) 176))) (by have:=Yw n;omega) hv)
 unfold segV at hm HS ⊢
 obtain ⟨s,hs⟩:∃ s:ByteArray,(⟨(nmS n).toArray⟩:ByteArray)=s:=⟨_,rfl⟩
 rw [hs] at HS hm ⊢
 have c0:=hm.cell 0
 have c2:=hm.cell 2
 simp only [Gt] at c0 c2
 clear h hv hs hm
 go_enter Tryz.func145,Tryz.ntmps145
 go_wp2_with (fail)
 refine HS.out.mono ?_
 rintro e w1 ⟨rfl,rfl⟩
 go_wp2_with (fail)
 go_ret
 exact ⟨rfl,Zb _ _⟩
theorem Za8 (w:World) (n:Int) (h:DkIn B w0 w d out m) {v:Int} {b:Bool} (hv:m.size (nmS n)=(v,b)) :
 Calls Tryz.prog 95 #[.pointer (some ⟨d,0,none⟩),.int .i64 n] w fun e w'=>e=.returned (.int .i64 v)∧Grows w w':=by
 have HO:=hid (Zby w d n)
 have HS:=hid (fun w' (hg:Grows w w')=>Zco w' n (h.grow hg) hv)
 obtain ⟨sv,hs⟩:∃ sv:Array Value,segV d n=sv:=⟨_,rfl⟩
 rw [hs] at HO HS
 clear h hv hs
 go_enter Tryz.func95,Tryz.ntmps95
 go_wp2_with (fail)
 refine HO.out.mono ?_
 rintro e w1 ⟨rfl,hg⟩
 have HG:=hid hg
 clear hg
 go_wp2_with (fail)
 refine (HS.out w1 HG.out).mono ?_
 rintro e w2 ⟨rfl,hg2⟩
 have HG2:=hid (Grows.trans HG.out hg2)
 clear hg2
 go_wp2_with (fail)
 go_ret
 exact ⟨rfl,HG2.out⟩
theorem Zd4 (w:World) (d:Nat) (n:Int) (hn:-9223372036854775808≤n∧n≤9223372036854775807) :
 Calls Tryz.prog 132 #[.agg (segV d n)] w fun e w'=>∃ g,e=.returned (.slice (some ⟨g,0,none⟩) 5 5)∧w.heap.size≤g∧Sl w' (some ⟨g,0,none⟩) 5 5 (Zy n)∧Grows w w':=by
 have hm:=Whole.made w 176 (segV d n)
 unfold segV at hm ⊢
 obtain ⟨s,hs⟩:∃ s:ByteArray,(⟨(nmS n).toArray⟩:ByteArray)=s:=⟨_,rfl⟩
 rw [hs] at hm ⊢
 have c1:=hm.cell 1
 simp only [Gt] at c1
 clear hs hm
 go_enter Tryz.func132,Tryz.ntmps132
 go_wp2_with (fail)
 go_ret
 have hw:=Whole.made (w.alloc (.cells #[.pointer (some ⟨d,0,none⟩),.int .i64 n,.string s] 176)) 5 #[.int .u8 9,.int .u8 (n / 16777216 % 256),.int .u8 (n / 65536 % 256),.int .u8 (n / 256 % 256),.int .u8 (n % 256)]
 rw [World.size_alloc] at hw
 exact ⟨w.heap.size+1,rfl,by omega,hw.sl (Zy n) (Zga n) (Yh n),Grows.trans (Zb _ _) (Zb _ _)⟩
end
end Go.Proofs.YtkelafkbmnjpeaaGreat

set_option maxHeartbeats 2000000
set_option maxRecDepth 100000
namespace Go.Proofs.YtkelafkbmnjpeaaGreat
open Go.Lib (hid)
open Go.RowKit

theorem Zp6 (A:Option Addr) (n c:Nat) (w:World) (hn:n≤maxLen) (h:¬ (1≤n∧n≤8192)) :
 Calls Tryz.prog 131 #[.slice A n c] w fun e w'=>e=.returned (.slice none 0 0)∧Below w.heap.size w w':=by
 unfold maxLen at hn
 have hz:sizeN n=0:=by unfold sizeN;rw [if_neg (by omega)]
 go_enter Tryz.func131,Tryz.ntmps131
 go_wp2_with (fail)
 refine (Yo _ _ (by omega) (by omega)).mono ?_
 rintro e w1 ⟨rfl,rfl⟩
 go_wp2_with (fail)
 go_ret
 exact ⟨rfl,Below.refl _ _⟩

theorem Zsw (A:Option Addr) (n c:Nat) (bs:List UInt8) (w:World) (hs:Sl w A n c bs) (h1:1≤n) (h2:n≤8192) :
 Calls Tryz.prog 131 #[.slice A n c] w fun e w'=>∃ A' c',e=.returned (.slice A' (n+8) c')∧w'.ownsRow w.heap.size 5 1 (.slice A' (n+8) c') (n+8) ((Z8 bs).map byteV)∧Below w.heap.size w w':=by
 have hz:sizeN n=((n+8:Nat):Int):=by unfold sizeN;rw [if_pos (by omega)];rfl
 have hne:((((n+8:Nat):Int))==0)=false:=by simp;omega
 obtain ⟨i0,hi,hz0,hz1,hz2⟩:=info_parts infoU8
 have HI:=hid hi
 have HZ:=hid (And.intro hz0 (And.intro hz1 hz2))
 have HS:=hid hs
 clear hs hi hz0 hz1 hz2
 generalize hm:((n+8:Nat):Int)=m at *
 go_enter Tryz.func131,Tryz.ntmps131
 go_wp2_with (fail)
 refine (Yo _ _ (by omega) (by omega)).mono ?_
 rintro e w1 ⟨rfl,rfl⟩
 go_wp2_with (fail)
 obtain ⟨b0,b1,b2,b3,hh⟩:=four (Zw n)
 have hc:=Zbv n w (by omega)
 rw [hh,Zbw] at hc
 refine hc.mono ?_
 rintro e w1 ⟨rfl,hb1⟩
 have HH:=hid hh
 have HB1:=hid hb1
 have hlt:∀ b:UInt8,b.toNat < 256:=fun b=>b.toNat_lt
 clear hb1 hc hh
 go_wp2_with (fail)
 have hW1:=Whole.made w1 229 #[Value.int IntKind.u8 ↑b0.toNat,Value.int IntKind.u8 ↑b1.toNat,Value.int IntKind.u8 ↑b2.toNat,Value.int IntKind.u8 ↑b3.toNat]
 have hBW:=HB1.out.alloc HB1.out.size (Obj.cells #[Value.int IntKind.u8 ↑b0.toNat,Value.int IntKind.u8 ↑b1.toNat,Value.int IntKind.u8 ↑b2.toNat,Value.int IntKind.u8 ↑b3.toNat] 229)
 generalize w1.alloc (Obj.cells #[Value.int IntKind.u8 ↑b0.toNat,Value.int IntKind.u8 ↑b1.toNat,Value.int IntKind.u8 ↑b2.toNat,Value.int IntKind.u8 ↑b3.toNat] 229)=W at *
 have hg1:w.heap.size≤w1.heap.size:=HB1.out.size
 generalize w1.heap.size=g1 at *
 obtain ⟨w2,hrun,hown,hgr⟩:=run_make_own (P:=Tryz.prog) W W.heap.size 37 5 i0 _ 1 Tryz.underlying37 HI.out HZ.out.1 HZ.out.2.1 .i64 .i64 (n+8) (by rw [HZ.out.2.2];omega) (by unfold maxLen;omega) (Nat.le_refl _)
 rw [hm] at hrun
 rw [hrun]
 have hb2:Below W.heap.size W w2:=(Below.refl _ W).grown hgr (Nat.le_refl _) (fun k hk=>by cases hk)
 have HOWN:=hid hown
 have HB2:=hid hb2
 have hW2:=Whole.below hW1 hb2 hW1.lt
 have HW2:=hid hW2
 have HBW:=hid hBW
 clear hrun hown hgr hb2 hW2 hBW hW1 HB1 w1
 go_wp2_with (first
  | (at_builtin
     refine Z9 rfl (.tmp 17) (.tmp 18) _ rfl Tryz.underlying37 HI.out HZ.out.1 HZ.out.2.1 HZ.out.2.2 rfl (v:=.slice (some ⟨W.heap.size,0,none⟩) 0 (n+8)) rfl HOWN.out (A:=some ⟨g1,0,none⟩) (m:=4) (c:=4) rfl (row4 HW2.out) (fun h=>by cases h) (Y2 _) 4 rfl ([b0,b1,b2,b3].map byteV) rfl (by unfold maxLen;omega) (by omega) HB2.out.size ?_
     intro A3 c3 w3 hown3 hbare3 hg3 hat3
     have hb3:Below W.heap.size W w3:=HB2.out.grown hg3 HB2.out.size (fun k hk=>by injection hk with hk;exact Nat.le_of_eq hk)
     have HOWN3:=hid hown3
     have HB3:=hid hb3
     have HX3:=hid (Sl.grow ((HBW.out.trans (hb3.mono HBW.out.size))) HS.out)
     clear hown3 hbare3 hg3 hat3 hb3)
  | (at_builtin
     refine Z9 rfl (.tmp 20) (.tmp 21) _ rfl Tryz.underlying37 HI.out HZ.out.1 HZ.out.2.1 HZ.out.2.2 rfl (v:=.slice A3 4 c3) rfl HOWN3.out (A:=A) (m:=n) (c:=c) rfl HX3.out.bytes HX3.out.bare (Y2 _) (n+4) (by omega) (([b0,b1,b2,b3]++bs).map byteV) (List.map_append).symm (by unfold maxLen;omega) (by omega) HB3.out.size ?_
     intro A4 c4 w4 hown4 hbare4 hg4 hat4
     have hb4:Below W.heap.size W w4:=HB3.out.grown hg4 HB3.out.size (fun k hk=>(HOWN3.out.lt k hk).1)
     have HOWN4:=hid hown4
     have HB4:=hid hb4
     clear hown4 hbare4 hg4 hat4 hb4))
 obtain ⟨d0,d1,d2,d3,hd⟩:=four (Jh ([b0,b1,b2,b3]++bs))
 have hc:=Zff A4 (n+4) c4 ([b0,b1,b2,b3]++bs) w4 (Sl.owned HOWN4.out) (by unfold maxLen;omega)
 rw [hd,Zbw] at hc
 refine hc.mono ?_
 rintro e w5 ⟨rfl,hb5⟩
 have HD:=hid hd
 have HB5:=hid hb5
 have hW6:=Whole.made w5 229 #[Value.int IntKind.u8 ↑d0.toNat,Value.int IntKind.u8 ↑d1.toNat,Value.int IntKind.u8 ↑d2.toNat,Value.int IntKind.u8 ↑d3.toNat]
 have HW6:=hid hW6
 have hb6:=hb5.alloc hb5.size (Obj.cells #[Value.int IntKind.u8 ↑d0.toNat,Value.int IntKind.u8 ↑d1.toNat,Value.int IntKind.u8 ↑d2.toNat,Value.int IntKind.u8 ↑d3.toNat] 229)
 have HOWN6:=hid (Zd HOWN4.out hb6)
 have HB6:=hid (HB4.out.trans (hb6.mono HB4.out.size))
 clear hb5 hc hd hW6 hb6 HB4 HB3 HB2 HOWN4 HOWN3 HOWN HX3 HW2 HB5
 go_wp2_with (first
  | (at_builtin
     refine Z9 rfl (.tmp 25) (.tmp 26) _ rfl Tryz.underlying37 HI.out HZ.out.1 HZ.out.2.1 HZ.out.2.2 rfl (v:=.slice A4 (n+4) c4) rfl HOWN6.out (A:=some ⟨w5.heap.size,0,none⟩) (m:=4) (c:=4) rfl (row4 HW6.out) (fun h=>by cases h) (Y2 _) (n+8) (by omega) ((([b0,b1,b2,b3]++bs)++[d0,d1,d2,d3]).map byteV) (List.map_append).symm (by unfold maxLen;omega) (by omega) HB6.out.size ?_
     intro A7 c7 w7 hown7 hbare7 hg7 hat7
     have hb7:Below W.heap.size W w7:=HB6.out.grown hg7 HB6.out.size (fun k hk=>(HOWN6.out.lt k hk).1)
     have HOWN7:=hid hown7
     have HB7:=hid hb7
     clear hown7 hbare7 hg7 hat7 hb7))
 go_ret
 refine ⟨A7,c7,rfl,?_,HBW.out.trans (HB7.out.mono HBW.out.size)⟩
 have hf:Z8 bs=([b0,b1,b2,b3]++bs)++[d0,d1,d2,d3]:=by
  unfold Z8
  rw [HS.out.len,HH.out,HD.out]
 rw [hf]
 exact Zh HOWN7.out HBW.out.size
theorem Za9 (A:Option Addr) (n c:Nat) (bs:List UInt8) (w:World) (hs:Sl w A n c bs) (hn:n≤maxLen) :
 Calls Tryz.prog 131 #[.slice A n c] w fun e w'=>∃ A' m c',e=.returned (.slice A' m c')∧w'.ownsRow w.heap.size 5 1 (.slice A' m c') m ((putB bs).map byteV)∧Below w.heap.size w w':=by
 have hl:=hs.len
 by_cases h:1≤n∧n≤8192
 ·refine (Zsw A n c bs w hs h.1 h.2).mono ?_
  rintro e w' ⟨A',c',rfl,hs',hb⟩
  refine ⟨A',n+8,c',rfl,?_,hb⟩
  unfold putB
  rw [hl,if_pos h]
  exact hs'
 ·refine (Zp6 A n c w hn h).mono ?_
  rintro e w' ⟨rfl,hb⟩
  refine ⟨none,0,0,rfl,?_,hb⟩
  unfold putB
  rw [hl,if_neg h]
  exact World.ownsRow_nil _ _ _ _

end Go.Proofs.YtkelafkbmnjpeaaGreat

set_option maxRecDepth 100000
namespace Go.Proofs.YtkelafkbmnjpeaaGreat
open Go.RowKit
section
variable {B d K:Nat} {w0 w w':World} {out:Nat→Prop} {m m':Dk}
theorem DkIn.beside (h:DkIn B w0 w d out m) (cs:Array Value) (t:TypeId):DkIn B w0 (w.alloc (.cells cs t)) d (fun k=>out k∨k=w.heap.size) m :=
 (h.more (Zb w (.cells cs t))).less fun k hk=>hk.imp id fun e=>by rw [World.size_alloc];omega
theorem DkIn.news (h:DkIn B w0 w d out m) (hg:Grows w w'):DkIn B w0 w' d (fun k=>out k∨w.heap.size≤k∧k < w'.heap.size) m:=h.more hg
theorem Stays.whole {t:TypeId} {cs:Array Value} {g:Nat} (hs:Stays B out w w') (h:Whole w g t cs) (ho:out g):Whole w' g t cs:=h.same (hs.same g h.lt fun e=>e.2 ho)
theorem Stays.less {out':Nat→Prop} (hs:Stays B out' w w') (ho:∀ k,out k→out' k):Stays B out w w':=hs.wider fun k _ hk=>⟨hk.1,fun e=>hk.2 (ho k e)⟩
end
def Zbx (W:World) (bs:List UInt8):Fact Grows:=⟨Option Addr×Nat,(none,0),fun p=>.slice p.1 bs.length p.2,fun p w=>w.ownsRow W.heap.size 5 1 (.slice p.1 bs.length p.2) bs.length (bs.map byteV),fun _ _ _ h g=>Zd h g⟩
section
variable {P:Program} {ops:Array Oper} {W:World} {Q:Act→World→Prop} {o:Oper} {rest:List Oper} {fs:List (Fact Grows)} {ks:Known} {a:Act}
theorem f_own (bs:List UInt8) (f:FuncId) (args:Array Value) (hw:Region.wanted o (yielded ops a.tmps)=true) (h1:∀ w,Grows W w→(execOp a.eval o).run P w=.ok (.enter f args) w)
 (hc:∀ w,Grows W w→ks.for (o.looksAt ops) w→Calls P f args w fun e w'=>∃ A m c,e=.returned (.slice A m c)∧w'.ownsRow w.heap.size 5 1 (.slice A m c) m (bs.map byteV)∧Below w.heap.size w w')
 (h2:∀ A c,wpF P ops Grows W Q rest fs ((o.dst,fun w=>w.ownsRow W.heap.size 5 1 (.slice A bs.length c) bs.length (bs.map byteV)) :: ks) (a.put o.dst (.slice A bs.length c))) :
 wpF P ops Grows W Q (o :: rest) (Zbx W bs :: fs) ks a:=by
 unfold wpF fStep
 rw [if_pos hw]
 refine ⟨fun w hW hk=>?_,fun x=>h2 x.1 x.2⟩
 unfold gives
 rw [h1 w hW]
 refine (hc w hW hk).mono fun e w' ⟨A,m,c,he,hs,hb⟩=>?_
 obtain rfl:bs.length=m:=by have:=hs.1;simpa using this
 exact ⟨hb,(A,c),he,Zh hs hW.size⟩
end
def Jo (bs:List UInt8) (er:Int):Fact Grows:=⟨Option Addr×Nat,(none,0),fun p=>.tuple #[.slice p.1 bs.length p.2,.int .i64 er],fun p w=>Sl w p.1 bs.length p.2 bs,fun _ _ _ h g=>Sl.grow g h⟩
section
variable {P:Program} {ops:Array Oper} {W:World} {Q:Act→World→Prop} {o:Oper} {rest:List Oper} {fs:List (Fact Grows)} {ks:Known} {a:Act}
theorem f_got (bs:List UInt8) (er:Int) (f:FuncId) (args:Array Value) (hw:Region.wanted o (yielded ops a.tmps)=true) (h1:∀ w,Grows W w→(execOp a.eval o).run P w=.ok (.enter f args) w)
 (hc:∀ w,Grows W w→ks.for (o.looksAt ops) w→Calls P f args w fun e w'=>∃ A c,e=.returned (.tuple #[.slice A bs.length c,.int .i64 er])∧Sl w' A bs.length c bs∧Grows w w')
 (h2:∀ A c,wpF P ops Grows W Q rest fs ((o.dst,fun w=>Sl w A bs.length c bs) :: ks) (a.put o.dst (.tuple #[.slice A bs.length c,.int .i64 er]))) :
 wpF P ops Grows W Q (o :: rest) (Jo bs er :: fs) ks a:=by
 unfold wpF fStep
 rw [if_pos hw]
 refine ⟨fun w hW hk=>?_,fun x=>h2 x.1 x.2⟩
 unfold gives
 rw [h1 w hW]
 exact (hc w hW hk).mono fun e w' ⟨A,c,he,hs,hb⟩=>⟨hb,(A,c),he,hs⟩
theorem Zjx (bs:List UInt8) (er:Int) (A:Option Addr) (c:Nat) (hw:Region.wanted o (yielded ops a.tmps)=true) (h1:∀ w,Grows W w→ks.for (o.looksAt ops) w→(execOp a.eval o).run P w=.ok (.value (.tuple #[.slice A bs.length c,.int .i64 er])) w∧Sl w A bs.length c bs)
 (h2:∀ A c,wpF P ops Grows W Q rest fs ((o.dst,fun w=>Sl w A bs.length c bs) :: ks) (a.put o.dst (.tuple #[.slice A bs.length c,.int .i64 er]))) :
 wpF P ops Grows W Q (o :: rest) (Jo bs er :: fs) ks a:=by
 unfold wpF fStep
 rw [if_pos hw]
 refine ⟨fun w hW hk=>?_,fun x=>h2 x.1 x.2⟩
 unfold gives
 rw [(h1 w hW hk).1]
 exact ⟨Grows.refl w,(A,c),rfl,(h1 w hW hk).2⟩
theorem f_slv (bs:List UInt8) (A:Option Addr) (c:Nat) (hw:Region.wanted o (yielded ops a.tmps)=true) (h1:∀ w,Grows W w→ks.for (o.looksAt ops) w→(execOp a.eval o).run P w=.ok (.value (.slice A bs.length c)) w∧Sl w A bs.length c bs)
 (h2:∀ A c,wpF P ops Grows W Q rest fs ((o.dst,fun w=>Sl w A bs.length c bs) :: ks) (a.put o.dst (.slice A bs.length c))) :
 wpF P ops Grows W Q (o :: rest) (Jq bs :: fs) ks a:=by
 unfold wpF fStep
 rw [if_pos hw]
 refine ⟨fun w hW hk=>?_,fun x=>h2 x.1 x.2⟩
 unfold gives
 rw [(h1 w hW hk).1]
 exact ⟨Grows.refl w,(A,c),rfl,(h1 w hW hk).2⟩
end
theorem Zib {w:World} {b:Nat} {A:Option Addr} {n c:Nat} {bs:List UInt8} (h:w.ownsRow b 5 1 (.slice A n c) n (bs.map byteV)):∀ ad,A=some ad→b≤ad.block∧ad.block < w.heap.size:=fun ad e=>by
 subst e
 exact h.lt ad.block rfl

theorem Zp3 (w:World) {A:Option Addr} {n c:Nat} {bs:List UInt8} {A2:Option Addr} {n2 c2:Nat} {bs2:List UInt8} (h1:Sl w A n c bs) (h2:Sl w A2 n2 c2 bs2) :
 Calls Tryz.prog 155 #[.slice A n c,.slice A2 n2 c2] w fun e w'=>e=.returned (.bool (decide (bs=bs2)))∧w=w':=by
 have r1:=Z4 h1
 have r2:=Z4 h2
 clear h1 h2
 go_enter Tryz.func155,Tryz.ntmps155
 go_wp2_with (fail)
 go_ret
 exact ⟨by rw [show (bs==bs2)=decide (bs=bs2) from Bool.eq_iff_iff.2 (by simp)];rfl,rfl⟩
end Go.Proofs.YtkelafkbmnjpeaaGreat
