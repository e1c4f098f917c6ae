import Derived.Test.YtkelafkbmnjpeaaGreatMG13
import Derived.Test.YtkelafkbmnjpeaaGreatMG10
import Derived.Deep.RegionHeld3
set_option linter.unusedSimpArgs false
set_option linter.unusedVariables false
set_option maxHeartbeats 4000000
set_option maxRecDepth 100000
namespace Go.Proofs.YtkelafkbmnjpeaaGreat
open Go.Lib (hid)
open Go.RowKit
section
variable (kd:Int) (s:ByteArray) (id no size:Int) (LA:Option Addr) (ln lc:Nat) (BA:Option Addr) (bn bc:Nat) (w:World)
theorem Zh4 {W w2:World} {p:Addr} {v:Value} (hb:Below W.heap.size W w2) (h:W.cell? p=some v):w2.cell? p=some v:=(hb.cell (World.block_lt_of_cell? W _ h)).trans h

theorem Zme (q:Bool) (f1 f2 f3:FuncId) (hf:wayOf kd=wayV f1 f2 f3) (hk:decide (kd=1∨kd=2∨kd=3∨kd=4)=true)
 (hc1:∀ a w,(callFunc f1 a).run Tryz.prog w=.ok (.enter f1 a) w)
 (hr:∀ w1,Grows w w1→Calls Tryz.prog f1 #[.agg #[.int .i64 kd,.string s,.int .i64 id,.int .i64 no,.int .i64 size,.slice LA ln lc,.slice BA bn bc]] w1 fun e w2=>e=.returned (.bool q)∧Below w1.heap.size w1 w2)
 (body:List UInt8) (hc2:∀ a w,(callFunc f2 a).run Tryz.prog w=.ok (.enter f2 a) w)
 (hp:q=true→∀ W A c,Grows w W→W.ownsRow w.heap.size 5 1 (.slice A 1 c) 1 ([byteI kd].map byteV)→Calls Tryz.prog f2 #[.agg #[.int .i64 kd,.string s,.int .i64 id,.int .i64 no,.int .i64 size,.slice LA ln lc,.slice BA bn bc],.slice A 1 c] W fun e w'=>∃ A' m c',e=.returned (.slice A' m c')∧w'.ownsRow w.heap.size 5 1 (.slice A' m c') m ((byteI kd :: body).map byteV)∧Below w.heap.size W w') :
 Calls Tryz.prog 87 #[.agg #[.int .i64 kd,.string s,.int .i64 id,.int .i64 no,.int .i64 size,.slice LA ln lc,.slice BA bn bc]] w fun e w'=>∃ A' m c',e=.returned (.slice A' m c')∧w'.ownsRow w.heap.size 5 1 (.slice A' m c') m ((if q then byteI kd :: body else []).map byteV)∧Below w.heap.size w w':=by
 have HR:=hid hr
 have HP:=hid hp
 clear hr hp
 have hlook:∀ (w1:World) (g:Nat),Zaf w1 g→∀ w2,Grows w1 w2→(Instr.lookup 194 (.map (some g)) (.int .i64 kd) true).run Tryz.prog w2=.ok (.tuple #[.agg #[.func (.func f1) #[] #[],.func (.func f2) #[] #[],.func (.func f3) #[] #[]],.bool true]) w2:=fun w1 g h w2 hg=>by
  have:=Zdq (h.grow hg) kd
  rw [hf,hk] at this
  exact this
 have HLK:=hid hlook
 clear hlook
 have hst:=fun a f m w=>Zh6 a f m w
 have hdr:∀ w:World,w.drew.heap.size=w.heap.size:=fun _=>rfl
 clear hf hk
 go_enter Tryz.func87,Tryz.ntmps87
 go_wp2_with (fail)
 obtain ⟨W0,hW0⟩:∃ W0,w.alloc (.cells #[.int .i64 kd,.string s,.int .i64 id,.int .i64 no,.int .i64 size,.slice LA ln lc,.slice BA bn bc] 39)=W0:=⟨_,rfl⟩
 have hs0:W0.heap.size=w.heap.size+1:=by rw [←hW0];simp
 have hw0:Whole W0 w.heap.size 39 #[.int .i64 kd,.string s,.int .i64 id,.int .i64 no,.int .i64 size,.slice LA ln lc,.slice BA bn bc]:=by rw [←hW0];exact Whole.made _ _ _
 have hcell:∀ w',Grows W0 w'→w'.cell? ⟨w.heap.size,0,none⟩=some (.int .i64 kd):=fun w' hg=>(hg.whole hw0).cell 0
 have HW0:=hid hw0
 have HG0:Hid (Grows w W0):=hid (hW0 ▸ Zb _ _)
 rw [hW0]
 clear hw0 hW0
 go_region_held3 (fun w'=>Grows W0 w') (with_reducible first | assumption | exact Z2 _ | exact Ji (by assumption) (by assumption) | exact Zce (by assumption) | exact Zcd | ((repeat (refine Zee ?_ (by omega)));assumption)) (first
  | (go_at_call 144
     refine (Za6 _).mono ?_
     rintro e w1 ⟨rfl,hw,hb⟩
     have hg1:Grows W0 w1:=Ji (by assumption) hb
     have hw1:=hg1.whole HW0.out
     have hlt:=hw1.lt
     have c0:=hw1.cell 0
     have c1:=hw1.cell 1
     have c2:=hw1.cell 2
     have c3:=hw1.cell 3
     have c4:=hw1.cell 4
     have c5:=hw1.cell 5
     have c6:=hw1.cell 6
     simp only [Gt] at c0 c1 c2 c3 c4 c5 c6
     simp only [World.size_alloc,hs0,hdr] at hw
     have l0:=HLK.out w1 _ hw w1 (Grows.refl _)
     have l1:=fun o=>HLK.out w1 _ hw (w1.alloc o) (Zb _ _)
     clear hw
     first
      | (have hwh:Whole w1 (w.heap.size+1) 192 #[.nilFunc,.nilFunc,.nilFunc]:=by
          rw [←hs0]
          exact Whole.below (show Whole (World.drew (W0.alloc _)) _ _ _ from Whole.made W0 _ _) hb (by simp [hdr])
         have d0:=hwh.cell 0
         have d1:=hwh.cell 1
         have d2:=hwh.cell 2
         have e0:=hwh.free 0
         have e1:=hwh.free 1
         have e2:=hwh.free 2
         simp only [Gt] at d0 d1 d2
         have HWH:=hid hwh
         clear hwh)
      | skip))
 all_goals
  have HG:=hid (Grows.trans HG0.out (by assumption))
  go_wp2_with (fail)
  refine (HR.out _ HG.out).mono ?_
  rintro e w2 ⟨rfl,hb2⟩
  have HB:=hid (Grows.trans HG.out hb2)
  have hw2:=(Grows.trans (by assumption:Grows W0 _) hb2).whole HW0.out
  have b0:=hw2.cell 0
  have b1:=hw2.cell 1
  have b2:=hw2.cell 2
  have b3:=hw2.cell 3
  have b4:=hw2.cell 4
  have b5:=hw2.cell 5
  have b6:=hw2.cell 6
  simp only [Gt] at b0 b1 b2 b3 b4 b5 b6
  first
   | have z1:w2.cell? ⟨w1.heap.size,1,none⟩=some (.func (.func f2) #[] #[]):=Zh4 hb2 ((Whole.made w1 _ _).cell 1)
   | have z1:w2.cell? ⟨w.heap.size+1,1,none⟩=some (.func (.func f2) #[] #[]):=Zh4 hb2 ((((HWH.out.put 0 _).put 1 _).put 2 _).cell 1)
  clear hb2
  have hby:=(Yn kd).symm
  cases q with
  | false =>
    go_wp2_with (fail)
    go_ret
    exact ⟨none,0,0,rfl,World.ownsRow_nil _ _ _ _,HB.out⟩
  | true =>
    have HOW:=hid (World.ownsRow_lit (size:=1) (base:=w.heap.size) (e:=5) w2 #[.int .u8 ((byteI kd).toNat:Int)] 1 HB.out.size (by unfold maxLen;omega) rfl)
    go_wp2_with (fail)
    refine (HP.out (by first | exact rfl | trivial) _ _ _ (Grows.trans HB.out (Zb _ _)) HOW.out).mono ?_
    rintro e w3 ⟨A3,m3,c3,rfl,ho3,hb3⟩
    have HO3:=hid ho3
    have HB3:=hid (Below.trans HB.out (Below.trans ((Below.refl _ _).alloc HB.out.size _) hb3))
    clear ho3 hb3
    go_wp2_with (fail)
    go_ret
    exact ⟨A3,m3,c3,rfl,by simpa using HO3.out,HB3.out⟩
theorem Zsm (hf:wayOf kd=wNone) (hk:decide (kd=1∨kd=2∨kd=3∨kd=4)=false) :
 Calls Tryz.prog 87 #[.agg #[.int .i64 kd,.string s,.int .i64 id,.int .i64 no,.int .i64 size,.slice LA ln lc,.slice BA bn bc]] w fun e w'=>e=.returned (.slice none 0 0)∧Below w.heap.size w w':=by
 have hlook:∀ (w1:World) (g:Nat),Zaf w1 g→∀ w2,Grows w1 w2→(Instr.lookup 194 (.map (some g)) (.int .i64 kd) true).run Tryz.prog w2=.ok (.tuple #[.agg #[.nilFunc,.nilFunc,.nilFunc],.bool false]) w2:=fun w1 g h w2 hg=>by
  have:=Zdq (h.grow hg) kd
  rw [hf,hk] at this
  exact this
 have HLK:=hid hlook
 clear hlook
 have hst:=fun a m w=>Zfc a m w
 have hdr:∀ w:World,w.drew.heap.size=w.heap.size:=fun _=>rfl
 clear hf hk
 go_enter Tryz.func87,Tryz.ntmps87
 go_wp2_with (fail)
 obtain ⟨W0,hW0⟩:∃ W0,w.alloc (.cells #[.int .i64 kd,.string s,.int .i64 id,.int .i64 no,.int .i64 size,.slice LA ln lc,.slice BA bn bc] 39)=W0:=⟨_,rfl⟩
 have hs0:W0.heap.size=w.heap.size+1:=by rw [←hW0];simp
 have hw0:Whole W0 w.heap.size 39 #[.int .i64 kd,.string s,.int .i64 id,.int .i64 no,.int .i64 size,.slice LA ln lc,.slice BA bn bc]:=by rw [←hW0];exact Whole.made _ _ _
 have hcell:∀ w',Grows W0 w'→w'.cell? ⟨w.heap.size,0,none⟩=some (.int .i64 kd):=fun w' hg=>(hg.whole hw0).cell 0
 have HW0:=hid hw0
 have HG0:Hid (Grows w W0):=hid (hW0 ▸ Zb _ _)
 rw [hW0]
 clear hw0 hW0
 go_region_held3 (fun w'=>Grows W0 w') (with_reducible first | assumption | exact Z2 _ | exact Ji (by assumption) (by assumption) | exact Zce (by assumption) | exact Zcd | ((repeat (refine Zee ?_ (by omega)));assumption)) (first
  | (go_at_call 144
     refine (Za6 _).mono ?_
     rintro e w1 ⟨rfl,hw,hb⟩
     have hg1:Grows W0 w1:=Ji (by assumption) hb
     have hw1:=hg1.whole HW0.out
     have hlt:=hw1.lt
     have c0:=hw1.cell 0
     have c1:=hw1.cell 1
     have c2:=hw1.cell 2
     have c3:=hw1.cell 3
     have c4:=hw1.cell 4
     have c5:=hw1.cell 5
     have c6:=hw1.cell 6
     simp only [Gt] at c0 c1 c2 c3 c4 c5 c6
     simp only [World.size_alloc,hs0,hdr] at hw
     have l0:=HLK.out w1 _ hw w1 (Grows.refl _)
     have l1:=fun o=>HLK.out w1 _ hw (w1.alloc o) (Zb _ _)
     clear hw
     first
      | (have hwh:Whole w1 (w.heap.size+1) 192 #[.nilFunc,.nilFunc,.nilFunc]:=by
          rw [←hs0]
          exact Whole.below (show Whole (World.drew (W0.alloc _)) _ _ _ from Whole.made W0 _ _) hb (by simp [hdr])
         have d0:=hwh.cell 0
         have d1:=hwh.cell 1
         have d2:=hwh.cell 2
         have e0:=hwh.free 0
         have e1:=hwh.free 1
         have e2:=hwh.free 2
         simp only [Gt] at d0 d1 d2
         have HWH:=hid hwh
         clear hwh)
      | skip))
 all_goals
  have HG:=hid (Grows.trans HG0.out (by assumption))
  go_wp2_with (fail)
  go_ret
  exact ⟨rfl,HG.out⟩
end
end Go.Proofs.YtkelafkbmnjpeaaGreat
