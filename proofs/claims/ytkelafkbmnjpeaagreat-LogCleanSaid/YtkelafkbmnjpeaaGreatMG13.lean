/-
  Texts that the statements lean on, one behind the other.
-/
import Derived.Test.YtkelafkbmnjpeaaGreatMG12
import Derived.Test.YtkelafkbmnjpeaaGreatMG01
import Derived.LoopTactic
import Derived.IntWalk
import Derived.MapKept
import Derived.Lib.Hide
set_option linter.unusedSimpArgs false
set_option maxHeartbeats 4000000
set_option maxRecDepth 100000
namespace Go.Proofs.YtkelafkbmnjpeaaGreat
open Go.Lib (hid)
open Go.RowKit
theorem Zs4 (g:Nat) (s:Src) (w:World) (h:At w g s) (hs:s.1.length≤140737488351232) :
 Calls Tryz.prog 218 #[.pointer (some ⟨g,0,none⟩)] w fun e w'=>∃ LA ln lc BA bn bc,e=.returned (.agg #[.int .i64 0,.string ⟨(rootS s).1.key.toArray⟩,.int .i64 (rootS s).1.id,.int .i64 (rootS s).1.no,.int .i64 (rootS s).1.size,.slice LA ln lc,.slice BA bn bc])∧RcOwn w' w.heap.size LA ln lc BA bn bc (rootS s).1∧At w' g (rootS s).2∧Turns g w w':=by
 have hg:=h.lt
 have hk:=Nat.le_trans (Zbv (numS s 1).2 (numS s 1).1).2 (Yr s 1)
 have hks:(keyS s).2.1.length≤s.1.length:=hk
 have h6:=Yr (keyS s).2 6
 have h3:=Yr (numS (keyS s).2 6).2 3
 have H1:=hid (Zmk g s (w.alloc (.cells #[.int .i64 0,.string ⟨#[]⟩,.int .i64 0,.int .i64 0,.int .i64 0,.slice none 0 0,.slice none 0 0] 196)) (h.up (Za _ _)) hs)
 have H2:=hid (fun (w1:World) (h:At w1 g (keyS s).2)=>Za2 g (keyS s).2 6 w1 h (by omega) (by omega))
 have H3:=hid (fun (w1:World) (h:At w1 g (numS (keyS s).2 6).2)=>Za2 g (numS (keyS s).2 6).2 3 w1 h (by omega) (by omega))
 have H4:=hid (fun (w1:World) (h:At w1 g (numS (numS (keyS s).2 6).2 3).2)=>Zqe g (numS (numS (keyS s).2 6).2 3).2 w1 h (by omega))
 have HZ:=hid (Whole.made w 196 #[.int .i64 0,.string ⟨#[]⟩,.int .i64 0,.int .i64 0,.int .i64 0,.slice none 0 0,.slice none 0 0])
 clear h h6 h3 hk hks
 unfold rootS
 dsimp only
 rw [show ((6:Nat):Int)=6 from rfl] at H2
 rw [show ((3:Nat):Int)=3 from rfl] at H3
 generalize locsS (numS (numS (keyS s).2 6).2 3).2=r at *
 generalize numS (numS (keyS s).2 6).2 3=y at *
 generalize numS (keyS s).2 6=x at *
 generalize keyS s=k at *
 go_enter Tryz.func218,Tryz.ntmps218
 go_wp2_with (fail)
 refine (H1.out).mono ?_
 rintro e w1 ⟨rfl,ha1,ht1⟩
 have HZ1:=hid (ht1.whole HZ.out (by omega))
 have HA1:=hid (And.intro ha1 (Turns.trans (Turns.grow (Za _ _)) ht1))
 clear ha1 ht1
 go_wp2_with (fail)
 refine (H2.out w1 HA1.out.1).mono ?_
 rintro e w2 ⟨rfl,ha2,ht2⟩
 have HZ2:=hid (ht2.whole HZ1.out (by omega))
 have HA2:=hid (And.intro ha2 (HA1.out.2.trans ht2))
 clear ha2 ht2
 go_wp2_with (fail)
 refine (H3.out w2 HA2.out.1).mono ?_
 rintro e w3 ⟨rfl,ha3,ht3⟩
 have HZ3:=hid (ht3.whole HZ2.out (by omega))
 have HA3:=hid (And.intro ha3 (HA2.out.2.trans ht3))
 clear ha3 ht3
 go_wp2_with (fail)
 refine (H4.out w3 HA3.out.1).mono ?_
 rintro e w4 ⟨A4,m4,c4,rfl,ho4,hn4,ha4,ht4⟩
 have hz:=ht4.whole HZ3.out (by omega)
 have HZ4:=hid hz
 have HA4:=hid (And.intro ha4 (HA3.out.2.trans ht4))
 have HO:=hid (And.intro ho4 (And.intro HZ3.out.lt hn4))
 have zc0:=hz.cell 0
 have zf0:=hz.free 0
 have zc1:=hz.cell 1
 have zf1:=hz.free 1
 have zc2:=hz.cell 2
 have zf2:=hz.free 2
 have zc3:=hz.cell 3
 have zf3:=hz.free 3
 have zc4:=hz.cell 4
 have zf4:=hz.free 4
 have zc5:=hz.cell 5
 have zf5:=hz.free 5
 have zc6:=hz.cell 6
 have zf6:=hz.free 6
 simp only [Gt] at zc0 zc1 zc2 zc3 zc4 zc5 zc6
 clear ho4 hn4 ha4 ht4 hz
 go_wp2_with (fail)
 obtain ⟨W,hW,hwh,hwt⟩:=Ji HZ4.out (.int .i64 0) (.string ⟨k.1.toArray⟩) (.int .i64 x.1) (.int .i64 0) (.int .i64 y.1) (.slice A4 m4 c4) (.slice none 0 0)
 rw [hW]
 have HWB:=hid (And.intro hwt (hwt.below (by have:=HZ4.out.lt;omega)))
 clear hW hwt
 refine bodyPost_ret (results_cell_row rfl _ _ w.heap.size _ _ (0,0) _ rfl hwh Tryz.underlying196 rfl (by kernel_rfl)) rfl ?_
 exact ⟨A4,m4,c4,none,0,0,rfl,⟨Zg (Ju HO.out.1 HWB.out.1 HO.out.2.1) HA3.out.2.size,HO.out.2.2,World.ownsRow_nil _ _ _ _⟩,HA4.out.1.under HWB.out.2 hg,HA4.out.2.then HWB.out.2⟩
theorem Zs9 (s:ByteArray):s.data.size=s.size:=rfl
theorem Zde (s:ByteArray):s.toList=[]↔s.size < 1:=by
 rw [ByteArray.toList_eq,Array.toList_eq_nil_iff,←Array.size_eq_zero_iff,Zs9]
 omega
theorem Zv0 (a lo hi:Int) (w:World) :
 Calls Tryz.prog 267 #[.int .i64 a,.int .i64 lo,.int .i64 hi] w fun e w'=>e=.returned (.bool (decide (lo≤a∧a≤hi)))∧Below w.heap.size w w':=by
 go_enter Tryz.func267,Tryz.ntmps267
 go_wp2
 all_goals
  go_ret
  refine ⟨Zu (by rw [Bool.eq_iff_iff];simp [Zde,-Nat.lt_one_iff] at *;omega),?_⟩
  first | exact Below.refl _ _ | exact Za _ _ | exact Grows.trans (Za _ _) (Za _ _)
theorem Zvh (s:ByteArray) (w:World) :
 Calls Tryz.prog 206 #[.string s] w fun e w'=>e=.returned (.bool (decide (1≤s.size∧s.size≤64)))∧Below w.heap.size w w':=by
 go_enter Tryz.func206,Tryz.ntmps206
 go_wp2
 all_goals
  go_ret
  refine ⟨Zu (by rw [Bool.eq_iff_iff];simp [Zde,-Nat.lt_one_iff] at *;omega),?_⟩
  first | exact Below.refl _ _ | exact Za _ _ | exact Grows.trans (Za _ _) (Za _ _)
theorem Zij (k:Int) (s:ByteArray) (id no size:Int) (LA:Option Addr) (ln lc:Nat) (BA:Option Addr) (bn bc:Nat) (w:World) :
 Calls Tryz.prog 222 #[.agg #[.int .i64 k,.string s,.int .i64 id,.int .i64 no,.int .i64 size,.slice LA ln lc,.slice BA bn bc]] w fun e w'=>e=.returned (.bool (decide ((id=0∧no=0∧size=0∧ln=0)∧(1≤s.size∧s.size≤64)∧bn=0)))∧Below w.heap.size w w':=by
 go_enter Tryz.func222,Tryz.ntmps222
 go_wp2
 all_goals
  go_ret
  refine ⟨Zu (by rw [Bool.eq_iff_iff];simp [Zde,-Nat.lt_one_iff] at *;omega),?_⟩
  first | exact Below.refl _ _ | exact Za _ _ | exact Grows.trans (Za _ _) (Za _ _)
theorem Zfv (k:Int) (s:ByteArray) (id no size:Int) (LA:Option Addr) (ln lc:Nat) (BA:Option Addr) (bn bc:Nat) (w:World) :
 Calls Tryz.prog 219 #[.agg #[.int .i64 k,.string s,.int .i64 id,.int .i64 no,.int .i64 size,.slice LA ln lc,.slice BA bn bc]] w fun e w'=>e=.returned (.bool (decide ((id=0∧no=0∧size=0∧ln=0)∧(1≤s.size∧s.size≤64)∧bn≤4096)))∧Below w.heap.size w w':=by
 go_enter Tryz.func219,Tryz.ntmps219
 go_wp2
 all_goals
  go_ret
  refine ⟨Zu (by rw [Bool.eq_iff_iff];simp [Zde,-Nat.lt_one_iff] at *;omega),?_⟩
  first | exact Below.refl _ _ | exact Za _ _ | exact Grows.trans (Za _ _) (Za _ _)
theorem Zgp (k:Int) (s:ByteArray) (id no size:Int) (LA:Option Addr) (ln lc:Nat) (BA:Option Addr) (bn bc:Nat) (w:World) :
 Calls Tryz.prog 213 #[.agg #[.int .i64 k,.string s,.int .i64 id,.int .i64 no,.int .i64 size,.slice LA ln lc,.slice BA bn bc]] w fun e w'=>e=.returned (.bool (decide (s.size < 1∧size=0∧ln=0∧(0≤id∧id≤1099511627776)∧(0≤no∧no≤511)∧1≤bn∧bn≤4096)))∧Below w.heap.size w w':=by
 go_enter Tryz.func213,Tryz.ntmps213
 go_wp2
 all_goals
  go_ret
  refine ⟨Zu (by rw [Bool.eq_iff_iff];simp [Zde,-Nat.lt_one_iff] at *;omega),?_⟩
  first | exact Below.refl _ _ | exact Za _ _ | exact Grows.trans (Za _ _) (Za _ _)
end Go.Proofs.YtkelafkbmnjpeaaGreat
