import Derived.Test.YtkelafkbmnjpeaaGreatMG14
import Derived.Deep.RegionHeld3
set_option maxHeartbeats 4000000
set_option maxRecDepth 100000
namespace Go.Proofs.YtkelafkbmnjpeaaGreat
open Go.Lib (hid)
open Go.RowKit

section
variable (kd:Int) (s:ByteArray) (id no size:Int) (LA:Option Addr) (ln lc:Nat) (BA:Option Addr) (bn bc:Nat) (ls:List Lc) (w:World)
theorem Zig (hl:Locs w LA ln lc ls) :
 Calls Tryz.prog 216 #[.agg #[.int .i64 kd,.string s,.int .i64 id,.int .i64 no,.int .i64 size,.slice LA ln lc,.slice BA bn bc]] w fun e w'=>e=.returned (.bool (decide (no=0∧bn=0∧(1≤s.size∧s.size≤64)∧(0≤id∧id≤1099511627776)∧(1≤size∧size≤65536)∧Zbs ls size)))∧Below w.heap.size w w':=by
 have HL:=hid hl
 obtain ⟨q,hq⟩:∃ q,decide (Zbs ls size)=q:=⟨_,rfl⟩
 have hq':Zbs ls size↔q=true:=by rw [←hq,decide_eq_true_eq]
 rw [show decide (no=0∧bn=0∧(1≤s.size∧s.size≤64)∧(0≤id∧id≤1099511627776)∧(1≤size∧size≤65536)∧Zbs ls size)=decide (no=0∧bn=0∧(1≤s.size∧s.size≤64)∧(0≤id∧id≤1099511627776)∧(1≤size∧size≤65536)∧q=true) by simp only [hq']]
 have HQ:=hid hq
 clear hl hq hq'
 obtain ⟨p,hp⟩:∃ p,decide (no=0∧bn=0∧(1≤s.size∧s.size≤64)∧(0≤id∧id≤1099511627776)∧(1≤size∧size≤65536)∧q=true)=p:=⟨_,rfl⟩
 rw [hp]
 have HP:=hid hp
 clear hp
 go_enter Tryz.func216,Tryz.ntmps216
 go_wp2_with (first
  | (go_at_call 277
     refine (Zii _ _ _ _ _ _ _ _ _ _ _ ls _ (HL.out.grow (Grows.trans (Za _ _) (Za _ _)))).mono ?_
     rintro e w1 ⟨rfl,hb⟩
     rw [HQ.out]
     have HB:=hid (Below.trans (Grows.trans (Za w _) (Za _ _)) (Below.mono hb (Nat.le_trans (Zc5 w _) (Zc5 _ _))))
     clear hb)
  | go_in)
 all_goals
  go_ret
  refine ⟨Zu (by rw [←HP.out,Bool.eq_iff_iff];simp [-Nat.lt_one_iff] at *;first | omega | (cases q <;> simp <;> omega)),?_⟩
  first | exact HB.out | exact Za _ _ | exact Grows.trans (Za _ _) (Za _ _)

theorem Zih (a:Addr) (f:FuncId) (m:Mode) (w:World):(store a (.func (.func f) #[] #[]) m).run Tryz.prog w=stored Tryz.prog w a (.func (.func f) #[] #[]) m:=run_store Tryz.prog w a _ m rfl
theorem Zfu (a:Addr) (m:Mode) (w:World):(store a .nilFunc m).run Tryz.prog w=stored Tryz.prog w a .nilFunc m:=run_store Tryz.prog w a _ m rfl
theorem Z6 (w:World):Grows w w.drew:=Zf w
theorem Zcg {W0:World} {o:Obj}:Grows W0 (W0.alloc o).drew:=Grows.trans (Za _ _) (Zf _)
theorem Jj {W0 w w1:World} (h:Grows W0 w) (hb:Below w.heap.size w w1):Grows W0 w1:=Grows.trans h hb
theorem Zch {W0 w:World} {o:Obj} (h:Grows W0 w):Grows W0 (w.alloc o):=Grows.trans h (Za _ _)
theorem Zew {W0 w:World} {b i:Nat} {u:Value} (h:Grows W0 w) (hb:W0.heap.size≤b):Grows W0 (w.setCell ⟨b,i,none⟩ u):=Below.setCell h hb u

theorem Zex (q:Bool) (f1 f2 f3:FuncId) (hf:wayOf kd=wayV f1 f2 f3) (hk:decide (kd=1∨kd=2∨kd=3∨kd=4)=true)
 (hc1:∀ a w,(callFunc f1 a).run Tryz.prog w=.ok (.enter f1 a) w)
 (hr:∀ w1,Grows w w1→Calls Tryz.prog f1 #[.agg #[.int .i64 kd,.string s,.int .i64 id,.int .i64 no,.int .i64 size,.slice LA ln lc,.slice BA bn bc]] w1 fun e w2=>e=.returned (.bool q)∧Below w1.heap.size w1 w2) :
 Calls Tryz.prog 84 #[.agg #[.int .i64 kd,.string s,.int .i64 id,.int .i64 no,.int .i64 size,.slice LA ln lc,.slice BA bn bc]] w fun e w'=>e=.returned (.bool q)∧Below w.heap.size w w':=by
 have HR:=hid hr
 clear hr
 have hlook:∀ (w1:World) (g:Nat),Zaf w1 g→∀ w2,Grows w1 w2→(Instr.lookup 194 (.map (some g)) (.int .i64 kd) true).run Tryz.prog w2=.ok (.tuple #[.agg #[.func (.func f1) #[] #[],.func (.func f2) #[] #[],.func (.func f3) #[] #[]],.bool true]) w2:=fun w1 g h w2 hg=>by
  have:=Zd0 (h.grow hg) kd
  rw [hf,hk] at this
  exact this
 have HLK:=hid hlook
 clear hlook
 have hst:=fun a f m w=>Zih a f m w
 have hdr:∀ w:World,w.drew.heap.size=w.heap.size:=fun _=>rfl
 clear hf hk
 go_enter Tryz.func84,Tryz.ntmps84
 go_wp2_with (fail)
 obtain ⟨W0,hW0⟩:∃ W0,w.alloc (.cells #[.int .i64 kd,.string s,.int .i64 id,.int .i64 no,.int .i64 size,.slice LA ln lc,.slice BA bn bc] 39)=W0:=⟨_,rfl⟩
 have hs0:W0.heap.size=w.heap.size+1:=by rw [←hW0];simp
 have hw0:Whole W0 w.heap.size 39 #[.int .i64 kd,.string s,.int .i64 id,.int .i64 no,.int .i64 size,.slice LA ln lc,.slice BA bn bc]:=by rw [←hW0];exact Whole.made _ _ _
 have hcell:∀ w',Grows W0 w'→w'.cell? ⟨w.heap.size,0,none⟩=some (.int .i64 kd):=fun w' hg=>(hg.whole hw0).cell 0
 have HW0:=hid hw0
 have HG0:Hid (Grows w W0):=hid (hW0 ▸ Za _ _)
 rw [hW0]
 clear hw0 hW0
 go_region_held3 (fun w'=>Grows W0 w') (with_reducible first | assumption | exact Z6 _ | exact Jj (by assumption) (by assumption) | exact Zch (by assumption) | exact Zcg | ((repeat (refine Zew ?_ (by omega)));assumption)) (first
  | (go_at_call 144
     refine (Za5 _).mono ?_
     rintro e w1 ⟨rfl,hw,hb⟩
     have hg1:Grows W0 w1:=Jj (by assumption) hb
     have hw1:=hg1.whole HW0.out
     have hlt:=hw1.lt
     have c0:=hw1.cell 0
     have c1:=hw1.cell 1
     have c2:=hw1.cell 2
     have c3:=hw1.cell 3
     have c4:=hw1.cell 4
     have c5:=hw1.cell 5
     have c6:=hw1.cell 6
     simp only [Gt] at c0 c1 c2 c3 c4 c5 c6
     simp only [World.size_alloc,hs0,hdr] at hw
     have l0:=HLK.out w1 _ hw w1 (Grows.refl _)
     have l1:=fun o=>HLK.out w1 _ hw (w1.alloc o) (Za _ _)
     clear hw
     first
      | (have hwh:Whole w1 (w.heap.size+1) 192 #[.nilFunc,.nilFunc,.nilFunc]:=by
          rw [←hs0]
          exact Whole.below (show Whole (World.drew (W0.alloc _)) _ _ _ from Whole.made W0 _ _) hb (by simp [hdr])
         have d0:=hwh.cell 0
         have d1:=hwh.cell 1
         have d2:=hwh.cell 2
         have e0:=hwh.free 0
         have e1:=hwh.free 1
         have e2:=hwh.free 2
         simp only [Gt] at d0 d1 d2
         clear hwh)
      | skip))
 all_goals
  have HG:=hid (Grows.trans HG0.out (by assumption))
  go_wp2_with (fail)
  refine (HR.out _ HG.out).mono ?_
  rintro e w2 ⟨rfl,hb2⟩
  have HB:=hid (Grows.trans HG.out hb2)
  clear hb2
  go_wp2_with (fail)
  go_ret
  exact ⟨rfl,HB.out⟩
theorem Znv (hf:wayOf kd=wNone) (hk:decide (kd=1∨kd=2∨kd=3∨kd=4)=false) :
 Calls Tryz.prog 84 #[.agg #[.int .i64 kd,.string s,.int .i64 id,.int .i64 no,.int .i64 size,.slice LA ln lc,.slice BA bn bc]] w fun e w'=>e=.returned (.bool false)∧Below w.heap.size w w':=by
 have hlook:∀ (w1:World) (g:Nat),Zaf w1 g→∀ w2,Grows w1 w2→(Instr.lookup 194 (.map (some g)) (.int .i64 kd) true).run Tryz.prog w2=.ok (.tuple #[.agg #[.nilFunc,.nilFunc,.nilFunc],.bool false]) w2:=fun w1 g h w2 hg=>by
  have:=Zd0 (h.grow hg) kd
  rw [hf,hk] at this
  exact this
 have HLK:=hid hlook
 clear hlook
 have hst:=fun a m w=>Zfu a m w
 have hdr:∀ w:World,w.drew.heap.size=w.heap.size:=fun _=>rfl
 clear hf hk
 go_enter Tryz.func84,Tryz.ntmps84
 go_wp2_with (fail)
 obtain ⟨W0,hW0⟩:∃ W0,w.alloc (.cells #[.int .i64 kd,.string s,.int .i64 id,.int .i64 no,.int .i64 size,.slice LA ln lc,.slice BA bn bc] 39)=W0:=⟨_,rfl⟩
 have hs0:W0.heap.size=w.heap.size+1:=by rw [←hW0];simp
 have hw0:Whole W0 w.heap.size 39 #[.int .i64 kd,.string s,.int .i64 id,.int .i64 no,.int .i64 size,.slice LA ln lc,.slice BA bn bc]:=by rw [←hW0];exact Whole.made _ _ _
 have hcell:∀ w',Grows W0 w'→w'.cell? ⟨w.heap.size,0,none⟩=some (.int .i64 kd):=fun w' hg=>(hg.whole hw0).cell 0
 have HW0:=hid hw0
 have HG0:Hid (Grows w W0):=hid (hW0 ▸ Za _ _)
 rw [hW0]
 clear hw0 hW0
 go_region_held3 (fun w'=>Grows W0 w') (with_reducible first | assumption | exact Z6 _ | exact Jj (by assumption) (by assumption) | exact Zch (by assumption) | exact Zcg | ((repeat (refine Zew ?_ (by omega)));assumption)) (first
  | (go_at_call 144
     refine (Za5 _).mono ?_
     rintro e w1 ⟨rfl,hw,hb⟩
     have hg1:Grows W0 w1:=Jj (by assumption) hb
     have hw1:=hg1.whole HW0.out
     have hlt:=hw1.lt
     have c0:=hw1.cell 0
     have c1:=hw1.cell 1
     have c2:=hw1.cell 2
     have c3:=hw1.cell 3
     have c4:=hw1.cell 4
     have c5:=hw1.cell 5
     have c6:=hw1.cell 6
     simp only [Gt] at c0 c1 c2 c3 c4 c5 c6
     simp only [World.size_alloc,hs0,hdr] at hw
     have l0:=HLK.out w1 _ hw w1 (Grows.refl _)
     have l1:=fun o=>HLK.out w1 _ hw (w1.alloc o) (Za _ _)
     clear hw
     first
      | (have hwh:Whole w1 (w.heap.size+1) 192 #[.nilFunc,.nilFunc,.nilFunc]:=by
          rw [←hs0]
          exact Whole.below (show Whole (World.drew (W0.alloc _)) _ _ _ from Whole.made W0 _ _) hb (by simp [hdr])
         have d0:=hwh.cell 0
         have d1:=hwh.cell 1
         have d2:=hwh.cell 2
         have e0:=hwh.free 0
         have e1:=hwh.free 1
         have e2:=hwh.free 2
         simp only [Gt] at d0 d1 d2
         clear hwh)
      | skip))
 all_goals
  have HG:=hid (Grows.trans HG0.out (by assumption))
  go_wp2_with (fail)
  go_ret
  exact ⟨rfl,HG.out⟩
end
end Go.Proofs.YtkelafkbmnjpeaaGreat
