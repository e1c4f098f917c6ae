/-
  Texts that the statements lean on, one behind the other.
-/
import Derived.Test.YtkelafkbmnjpeaaGreatMG12
import Derived.WideMake
import Derived.Test.YtkelafkbmnjpeaaGreatRcLocs
import Derived.Deep.RegionHeld3
set_option linter.unusedSimpArgs false
set_option linter.unusedVariables false
namespace Go.Proofs.YtkelafkbmnjpeaaGreat
open Go.RowKit

def fnV (f:FuncId):Value:=.func (.func f) #[] #[]
def wayV (a b c:FuncId):Value:=.agg #[fnV a,fnV b,fnV c]
def wPiece:Value:=wayV 213 214 215
def wRoot:Value:=wayV 216 217 218
def wInline:Value:=wayV 219 220 221
def wTomb:Value:=wayV 222 223 224
def wNone:Value:=.agg #[.nilFunc,.nilFunc,.nilFunc]
def entV (k:Int) (v:Value) (b:Nat):MapEntry:={ key:=.int .i64 k,val:=v,born:=b }
def ways4:Array MapEntry:=#[entV 1 wPiece 0,entV 2 wRoot 1,entV 3 wInline 2,entV 4 wTomb 3]

theorem Zut (w:World):∃ w',(Instr.makeMap 194 none).run Tryz.prog w=.ok (.map (some w.heap.size)) w'∧w'.heap[w.heap.size]?=some (.map #[] 0)∧Below w.heap.size w w' :=
 ⟨_,run_makeMap _ w,heap_alloc_new w _,Zb _ _⟩
theorem Zeg {w:World} {g:Nat} {es:Array MapEntry} {n:Nat} (h:w.heap[g]?=some (.map es n)) (k:Int) (v:Value) (hf:Instr.findNow (.int .i64) (.int .i64 k) es.toList 0=some none) :
 ∃ w',(Instr.mapUpdate 194 (.map (some g)) (.int .i64 k) v).run Tryz.prog w=.ok () w'∧w'.heap[g]?=some (.map (es.push (entV k v n)) (n+1))∧Below g w w':=by
 have hc:(Instr.checkKey false 10000 3 (.int .i64 k)).run Tryz.prog w=.ok () w:=MapKept.run_checkKey (k:=.int .i64 k) Tryz.underlying3 (by simp [MapKept.IsKey]) false 9999
 refine ⟨{ w with heap:=w.heap.setIfInBounds g (.map (es.push (entV k v n)) (n+1)) },?_,(MapKept.heap_set h).1,⟨rfl,rfl,rfl,by simp,fun k hk=>(MapKept.heap_set h).2 k (by omega)⟩⟩
 simp [Instr.mapUpdate,run_underlying Tryz.underlying194,MapKept.run_getObj_map h,hc,MapKept.run_findKey Tryz.underlying3 hf,MapKept.run_setObj_map _ h,Result.andThen,entV]

def Zaf (w:World) (g:Nat):Prop:=w.heap[g]?=some (.map ways4 4)
theorem Zaf.grow {w w':World} {g:Nat} (h:Zaf w g) (hg:Grows w w'):Zaf w' g:=by
 unfold Zaf at *
 rw [hg.block g (Array.getElem?_eq_some_iff.1 h).1]
 exact h

theorem Za6 (w:World) :
 Calls Tryz.prog 144 #[] w fun e w'=>e=.returned (.map (some w.heap.size))∧Zaf w' w.heap.size∧Below w.heap.size w w':=by
 obtain ⟨w1,r1,h1,b1⟩:=Zut w
 obtain ⟨w2,r2,h2,b2⟩:=Zeg h1 1 wPiece rfl
 obtain ⟨w3,r3,h3,b3⟩:=Zeg h2 2 wRoot rfl
 obtain ⟨w4,r4,h4,b4⟩:=Zeg h3 3 wInline rfl
 obtain ⟨w5,r5,h5,b5⟩:=Zeg h4 4 wTomb rfl
 have HB:=Lib.hid (show Zaf w5 w.heap.size∧Below w.heap.size w w5 from ⟨h5,(((b1.trans b2).trans b3).trans b4).trans b5⟩)
 clear h1 h2 h3 h4 h5 b1 b2 b3 b4 b5
 unfold wPiece wayV fnV at r2
 unfold wRoot wayV fnV at r3
 unfold wInline wayV fnV at r4
 unfold wTomb wayV fnV at r5
 go_enter Tryz.func144,Tryz.ntmps144
 go_wp2_with (fail)
 go_ret
 exact ⟨rfl,HB.out⟩

theorem Zc7 {w:World} {g:Nat} (h:Zaf w g) (k:Int) (v:Value) (b:Bool) (hf:Instr.findNow (.int .i64) (.int .i64 k) ways4.toList 0=some (if b then some ((k - 1).toNat,v) else none)) (hv:b=false→v=wNone) :
 (Instr.lookup 194 (.map (some g)) (.int .i64 k) true).run Tryz.prog w=.ok (.tuple #[v,.bool b]) w:=by
 have hc:(Instr.checkKey false 10000 3 (.int .i64 k)).run Tryz.prog w=.ok () w:=MapKept.run_checkKey (k:=.int .i64 k) Tryz.underlying3 (by simp [MapKept.IsKey]) false 9999
 have he:ways4.isEmpty=false:=rfl
 have hz:(zeroValue 192).run Tryz.prog w=.ok wNone w:=by kernel_rfl
 cases b with
 | true =>
   simp [Instr.lookup,run_underlying Tryz.underlying194,MapKept.run_getObj_map h,he,hc,MapKept.run_findKey Tryz.underlying3 hf,Result.andThen]
 | false =>
   obtain rfl:=hv rfl
   simp [Instr.lookup,run_underlying Tryz.underlying194,MapKept.run_getObj_map h,he,hc,MapKept.run_findKey Tryz.underlying3 hf,Result.andThen,hz]

def wayOf (k:Int):Value:=if k=1 then wPiece else if k=2 then wRoot else if k=3 then wInline else if k=4 then wTomb else wNone
theorem Zdq {w:World} {g:Nat} (h:Zaf w g) (k:Int):(Instr.lookup 194 (.map (some g)) (.int .i64 k) true).run Tryz.prog w=.ok (.tuple #[wayOf k,.bool (decide (k=1∨k=2∨k=3∨k=4))]) w:=by
 by_cases h1:k=1
 ·subst h1;exact Zc7 h 1 wPiece true rfl (fun h=>by cases h)
 by_cases h2:k=2
 ·subst h2;exact Zc7 h 2 wRoot true rfl (fun h=>by cases h)
 by_cases h3:k=3
 ·subst h3;exact Zc7 h 3 wInline true rfl (fun h=>by cases h)
 by_cases h4:k=4
 ·subst h4;exact Zc7 h 4 wTomb true rfl (fun h=>by cases h)
 rw [decide_eq_false (by omega),wayOf,if_neg h1,if_neg h2,if_neg h3,if_neg h4]
 refine Zc7 h k wNone false ?_ (fun _=>rfl)
 simp [ways4,entV,Instr.findNow,Instr.sameNow,beq_eq_false_iff_ne.2 h1,beq_eq_false_iff_ne.2 h2,beq_eq_false_iff_ne.2 h3,beq_eq_false_iff_ne.2 h4]
end Go.Proofs.YtkelafkbmnjpeaaGreat

set_option maxHeartbeats 4000000
set_option maxRecDepth 100000
namespace Go.Proofs.YtkelafkbmnjpeaaGreat
open Go.Lib (hid)
open Go.RowKit

section
variable (kd:Int) (s:ByteArray) (id no size:Int) (LA:Option Addr) (ln lc:Nat) (BA:Option Addr) (bn bc:Nat) (ls:List Lc) (w:World)
theorem Zh5 (hl:Locs w LA ln lc ls) :
 Calls Tryz.prog 216 #[.agg #[.int .i64 kd,.string s,.int .i64 id,.int .i64 no,.int .i64 size,.slice LA ln lc,.slice BA bn bc]] w fun e w'=>e=.returned (.bool (decide (no=0∧bn=0∧(1≤s.size∧s.size≤64)∧(0≤id∧id≤1099511627776)∧(1≤size∧size≤65536)∧Yu ls size)))∧Below w.heap.size w w':=by
 have HL:=hid hl
 obtain ⟨q,hq⟩:∃ q,decide (Yu ls size)=q:=⟨_,rfl⟩
 have hq':Yu ls size↔q=true:=by rw [←hq,decide_eq_true_eq]
 rw [show decide (no=0∧bn=0∧(1≤s.size∧s.size≤64)∧(0≤id∧id≤1099511627776)∧(1≤size∧size≤65536)∧Yu ls size)=decide (no=0∧bn=0∧(1≤s.size∧s.size≤64)∧(0≤id∧id≤1099511627776)∧(1≤size∧size≤65536)∧q=true) by simp only [hq']]
 have HQ:=hid hq
 clear hl hq hq'
 obtain ⟨p,hp⟩:∃ p,decide (no=0∧bn=0∧(1≤s.size∧s.size≤64)∧(0≤id∧id≤1099511627776)∧(1≤size∧size≤65536)∧q=true)=p:=⟨_,rfl⟩
 rw [hp]
 have HP:=hid hp
 clear hp
 go_enter Tryz.func216,Tryz.ntmps216
 go_wp2_with (first
  | (go_at_call 277
     refine (Zh7 _ _ _ _ _ _ _ _ _ _ _ ls _ (HL.out.grow (Grows.trans (Zb _ _) (Zb _ _)))).mono ?_
     rintro e w1 ⟨rfl,hb⟩
     rw [HQ.out]
     have HB:=hid (Below.trans (Grows.trans (Zb w _) (Zb _ _)) (Below.mono hb (Nat.le_trans (Zcx w _) (Zcx _ _))))
     clear hb)
  | go_in)
 all_goals
  go_ret
  refine ⟨Zm (by rw [←HP.out,Bool.eq_iff_iff];simp [-Nat.lt_one_iff] at *;first | omega | (cases q <;> simp <;> omega)),?_⟩
  first | exact HB.out | exact Zb _ _ | exact Grows.trans (Zb _ _) (Zb _ _)

theorem Zh6 (a:Addr) (f:FuncId) (m:Mode) (w:World):(store a (.func (.func f) #[] #[]) m).run Tryz.prog w=stored Tryz.prog w a (.func (.func f) #[] #[]) m:=run_store Tryz.prog w a _ m rfl
theorem Zfc (a:Addr) (m:Mode) (w:World):(store a .nilFunc m).run Tryz.prog w=stored Tryz.prog w a .nilFunc m:=run_store Tryz.prog w a _ m rfl
theorem Z2 (w:World):Grows w w.drew:=Ze w
theorem Zcd {W0:World} {o:Obj}:Grows W0 (W0.alloc o).drew:=Grows.trans (Zb _ _) (Ze _)
theorem Ji {W0 w w1:World} (h:Grows W0 w) (hb:Below w.heap.size w w1):Grows W0 w1:=Grows.trans h hb
theorem Zce {W0 w:World} {o:Obj} (h:Grows W0 w):Grows W0 (w.alloc o):=Grows.trans h (Zb _ _)
theorem Zee {W0 w:World} {b i:Nat} {u:Value} (h:Grows W0 w) (hb:W0.heap.size≤b):Grows W0 (w.setCell ⟨b,i,none⟩ u):=Below.setCell h hb u

theorem Zef (q:Bool) (f1 f2 f3:FuncId) (hf:wayOf kd=wayV f1 f2 f3) (hk:decide (kd=1∨kd=2∨kd=3∨kd=4)=true)
 (hc1:∀ a w,(callFunc f1 a).run Tryz.prog w=.ok (.enter f1 a) w)
 (hr:∀ w1,Grows w w1→Calls Tryz.prog f1 #[.agg #[.int .i64 kd,.string s,.int .i64 id,.int .i64 no,.int .i64 size,.slice LA ln lc,.slice BA bn bc]] w1 fun e w2=>e=.returned (.bool q)∧Below w1.heap.size w1 w2) :
 Calls Tryz.prog 84 #[.agg #[.int .i64 kd,.string s,.int .i64 id,.int .i64 no,.int .i64 size,.slice LA ln lc,.slice BA bn bc]] w fun e w'=>e=.returned (.bool q)∧Below w.heap.size w w':=by
 have HR:=hid hr
 clear hr
 have hlook:∀ (w1:World) (g:Nat),Zaf w1 g→∀ w2,Grows w1 w2→(Instr.lookup 194 (.map (some g)) (.int .i64 kd) true).run Tryz.prog w2=.ok (.tuple #[.agg #[.func (.func f1) #[] #[],.func (.func f2) #[] #[],.func (.func f3) #[] #[]],.bool true]) w2:=fun w1 g h w2 hg=>by
  have:=Zdq (h.grow hg) kd
  rw [hf,hk] at this
  exact this
 have HLK:=hid hlook
 clear hlook
 have hst:=fun a f m w=>Zh6 a f m w
 have hdr:∀ w:World,w.drew.heap.size=w.heap.size:=fun _=>rfl
 clear hf hk
 go_enter Tryz.func84,Tryz.ntmps84
 go_wp2_with (fail)
 obtain ⟨W0,hW0⟩:∃ W0,w.alloc (.cells #[.int .i64 kd,.string s,.int .i64 id,.int .i64 no,.int .i64 size,.slice LA ln lc,.slice BA bn bc] 39)=W0:=⟨_,rfl⟩
 have hs0:W0.heap.size=w.heap.size+1:=by rw [←hW0];simp
 have hw0:Whole W0 w.heap.size 39 #[.int .i64 kd,.string s,.int .i64 id,.int .i64 no,.int .i64 size,.slice LA ln lc,.slice BA bn bc]:=by rw [←hW0];exact Whole.made _ _ _
 have hcell:∀ w',Grows W0 w'→w'.cell? ⟨w.heap.size,0,none⟩=some (.int .i64 kd):=fun w' hg=>(hg.whole hw0).cell 0
 have HW0:=hid hw0
 have HG0:Hid (Grows w W0):=hid (hW0 ▸ Zb _ _)
 rw [hW0]
 clear hw0 hW0
 go_region_held3 (fun w'=>Grows W0 w') (with_reducible first | assumption | exact Z2 _ | exact Ji (by assumption) (by assumption) | exact Zce (by assumption) | exact Zcd | ((repeat (refine Zee ?_ (by omega)));assumption)) (first
  | (go_at_call 144
     refine (Za6 _).mono ?_
     rintro e w1 ⟨rfl,hw,hb⟩
     have hg1:Grows W0 w1:=Ji (by assumption) hb
     have hw1:=hg1.whole HW0.out
     have hlt:=hw1.lt
     have c0:=hw1.cell 0
     have c1:=hw1.cell 1
     have c2:=hw1.cell 2
     have c3:=hw1.cell 3
     have c4:=hw1.cell 4
     have c5:=hw1.cell 5
     have c6:=hw1.cell 6
     simp only [Gt] at c0 c1 c2 c3 c4 c5 c6
     simp only [World.size_alloc,hs0,hdr] at hw
     have l0:=HLK.out w1 _ hw w1 (Grows.refl _)
     have l1:=fun o=>HLK.out w1 _ hw (w1.alloc o) (Zb _ _)
     clear hw
     first
      | (have hwh:Whole w1 (w.heap.size+1) 192 #[.nilFunc,.nilFunc,.nilFunc]:=by
          rw [←hs0]
          exact Whole.below (show Whole (World.drew (W0.alloc _)) _ _ _ from Whole.made W0 _ _) hb (by simp [hdr])
         have d0:=hwh.cell 0
         have d1:=hwh.cell 1
         have d2:=hwh.cell 2
         have e0:=hwh.free 0
         have e1:=hwh.free 1
         have e2:=hwh.free 2
         simp only [Gt] at d0 d1 d2
         clear hwh)
      | skip))
 all_goals
  have HG:=hid (Grows.trans HG0.out (by assumption))
  go_wp2_with (fail)
  refine (HR.out _ HG.out).mono ?_
  rintro e w2 ⟨rfl,hb2⟩
  have HB:=hid (Grows.trans HG.out hb2)
  clear hb2
  go_wp2_with (fail)
  go_ret
  exact ⟨rfl,HB.out⟩
theorem Znn (hf:wayOf kd=wNone) (hk:decide (kd=1∨kd=2∨kd=3∨kd=4)=false) :
 Calls Tryz.prog 84 #[.agg #[.int .i64 kd,.string s,.int .i64 id,.int .i64 no,.int .i64 size,.slice LA ln lc,.slice BA bn bc]] w fun e w'=>e=.returned (.bool false)∧Below w.heap.size w w':=by
 have hlook:∀ (w1:World) (g:Nat),Zaf w1 g→∀ w2,Grows w1 w2→(Instr.lookup 194 (.map (some g)) (.int .i64 kd) true).run Tryz.prog w2=.ok (.tuple #[.agg #[.nilFunc,.nilFunc,.nilFunc],.bool false]) w2:=fun w1 g h w2 hg=>by
  have:=Zdq (h.grow hg) kd
  rw [hf,hk] at this
  exact this
 have HLK:=hid hlook
 clear hlook
 have hst:=fun a m w=>Zfc a m w
 have hdr:∀ w:World,w.drew.heap.size=w.heap.size:=fun _=>rfl
 clear hf hk
 go_enter Tryz.func84,Tryz.ntmps84
 go_wp2_with (fail)
 obtain ⟨W0,hW0⟩:∃ W0,w.alloc (.cells #[.int .i64 kd,.string s,.int .i64 id,.int .i64 no,.int .i64 size,.slice LA ln lc,.slice BA bn bc] 39)=W0:=⟨_,rfl⟩
 have hs0:W0.heap.size=w.heap.size+1:=by rw [←hW0];simp
 have hw0:Whole W0 w.heap.size 39 #[.int .i64 kd,.string s,.int .i64 id,.int .i64 no,.int .i64 size,.slice LA ln lc,.slice BA bn bc]:=by rw [←hW0];exact Whole.made _ _ _
 have hcell:∀ w',Grows W0 w'→w'.cell? ⟨w.heap.size,0,none⟩=some (.int .i64 kd):=fun w' hg=>(hg.whole hw0).cell 0
 have HW0:=hid hw0
 have HG0:Hid (Grows w W0):=hid (hW0 ▸ Zb _ _)
 rw [hW0]
 clear hw0 hW0
 go_region_held3 (fun w'=>Grows W0 w') (with_reducible first | assumption | exact Z2 _ | exact Ji (by assumption) (by assumption) | exact Zce (by assumption) | exact Zcd | ((repeat (refine Zee ?_ (by omega)));assumption)) (first
  | (go_at_call 144
     refine (Za6 _).mono ?_
     rintro e w1 ⟨rfl,hw,hb⟩
     have hg1:Grows W0 w1:=Ji (by assumption) hb
     have hw1:=hg1.whole HW0.out
     have hlt:=hw1.lt
     have c0:=hw1.cell 0
     have c1:=hw1.cell 1
     have c2:=hw1.cell 2
     have c3:=hw1.cell 3
     have c4:=hw1.cell 4
     have c5:=hw1.cell 5
     have c6:=hw1.cell 6
     simp only [Gt] at c0 c1 c2 c3 c4 c5 c6
     simp only [World.size_alloc,hs0,hdr] at hw
     have l0:=HLK.out w1 _ hw w1 (Grows.refl _)
     have l1:=fun o=>HLK.out w1 _ hw (w1.alloc o) (Zb _ _)
     clear hw
     first
      | (have hwh:Whole w1 (w.heap.size+1) 192 #[.nilFunc,.nilFunc,.nilFunc]:=by
          rw [←hs0]
          exact Whole.below (show Whole (World.drew (W0.alloc _)) _ _ _ from Whole.made W0 _ _) hb (by simp [hdr])
         have d0:=hwh.cell 0
         have d1:=hwh.cell 1
         have d2:=hwh.cell 2
         have e0:=hwh.free 0
         have e1:=hwh.free 1
         have e2:=hwh.free 2
         simp only [Gt] at d0 d1 d2
         clear hwh)
      | skip))
 all_goals
  have HG:=hid (Grows.trans HG0.out (by assumption))
  go_wp2_with (fail)
  go_ret
  exact ⟨rfl,HG.out⟩
end
end Go.Proofs.YtkelafkbmnjpeaaGreat
