/-
  Texts that the statements lean on, one behind the other.
-/
import Derived.Shelf.Small.Bits
import Derived.Shelf.Small.Strs
import Derived.Shelf.Small.Wraps
import Derived.Shelf.Strconv.Itoa0
import Derived.Shelf.LaysM
import Derived.Shelf.Strconv.Clone
import Derived.Shelf.Strings.Search1
import Derived.Shelf.Sort.Plain
import Derived.Shelf.Slices.Turned
import Derived.Ground.Names2Prog
import Derived.Shelf.Slices.Clone
import Derived.Shelf.Slices.CompactI
import Derived.Shelf.Slices.SearchI
import Derived.Shelf.Slices.Cells
import Derived.Shelf.Slices.In.SortNone
import Derived.Shelf.Slices.Empties
import Derived.Shelf.Bytes.SlSearch0
import Derived.Ground.SlbCloneProg
import Derived.Shelf.Bytes.SlClone
import Derived.Ground.SlgnProg
import Derived.Shelf.SlicesE.Compact
import Derived.Ground.SlgfProg
import Derived.Shelf.SlicesE.IndexFunc
import Derived.Shelf.SlicesE.DeleteFunc
import Derived.Shelf.Bytes.SlEqualAll
import Derived.Shelf.Bytes.Small
import Derived.Test.YtkelafkbmnjpeaaGreatProg
import Derived.Test.YtkelafkbmnjpeaaGreatMG03
import Derived.OrdersIn
import Derived.TacticsIn
set_option linter.unusedSimpArgs false
set_option linter.unusedVariables false
namespace Go.Proofs.YtkelafkbmnjpeaaGreat
open Go.Shelf
def lays213_ren:Go.Shelf.Ren:=⟨fun | 213=>271 | 265=>307 | n=>n,fun | 9=>9 | 3=>3 | n=>n,fun | n=>n⟩
def lays106_ren:Go.Shelf.Ren:=⟨fun | 106=>210 | 213=>271 | 265=>307 | n=>n,fun | 9=>9 | 3=>3 | n=>n,fun | n=>n⟩
theorem lays106:Go.Proofs.Lays.n106 Tryz.prog lays106_ren:={
  mixed:=by kernel_rfl
  f106:=Tryz.func210.trans (congrArg some (by kernel_rfl))
  f213:=Tryz.func271.trans (congrArg some (by kernel_rfl))
  f265:=Tryz.func307.trans (congrArg some (by kernel_rfl))
  t3:=Tryz.underlying3
  a3:=Tryz.isAgg3
  z3:=Tryz.sizeOf3
  v3:=Tryz.zeroValue3
  t9:=Tryz.underlying9
  a9:=Tryz.isAgg9
  z9:=Tryz.sizeOf9
  v9:=Tryz.zeroValue9 }
open Go.RowKit in
theorem strings_Compare (a b:ByteArray) (w:World) :
    Calls Tryz.prog 210 #[.string a,.string b] w fun e w'=>e=.returned (.int .i64 (Lib.compareBytes a.data.toList b.data.toList))∧w'=w:=Any.strings_Compare lays106 a b w
def lays137_ren:Go.Shelf.Ren:=⟨fun | 137=>256 | 217=>294 | 266=>311 | n=>n,fun | 9=>9 | 5=>5 | 3=>3 | n=>n,fun | n=>n⟩
theorem lays137:Go.Proofs.Lays.n137 Tryz.prog lays137_ren:={
  mixed:=by kernel_rfl
  f137:=Tryz.func256.trans (congrArg some (by kernel_rfl))
  f217:=Tryz.func294.trans (congrArg some (by kernel_rfl))
  f266:=Tryz.func311.trans (congrArg some (by kernel_rfl))
  t3:=Tryz.underlying3
  a3:=Tryz.isAgg3
  z3:=Tryz.sizeOf3
  v3:=Tryz.zeroValue3
  t5:=Tryz.underlying5
  a5:=Tryz.isAgg5
  z5:=Tryz.sizeOf5
  v5:=Tryz.zeroValue5
  t9:=Tryz.underlying9
  a9:=Tryz.isAgg9
  z9:=Tryz.sizeOf9
  v9:=Tryz.zeroValue9 }
open Go.RowKit in
theorem strings_IndexByte (s:ByteArray) (c:Int) (w:World) :
    Calls Tryz.prog 256 #[.string s,.int .u8 c] w fun e w'=>e=.returned (.int .i64 (Lib.indexByte s.data.toList c.toNat.toUInt8))∧w'=w:=Any.strings_IndexByte lays137 s c w
def laysM316_ren:Go.Shelf.Ren:=⟨fun | 316=>303 | n=>n,fun | 9=>9 | 3=>3 | 4=>4 | 37=>37 | 0=>0 | 127=>317 | 5=>5 | n=>n,fun | n=>n⟩
theorem laysM316:Go.Proofs.LaysM.n316 Tryz.prog laysM316_ren:={
  mixed:=by kernel_rfl
  f316:=Tryz.func303.trans (congrArg some (by kernel_rfl))
  t0:=Tryz.underlying0
  a0:=Tryz.isAgg0
  z0:=Tryz.sizeOf0
  v0:=Tryz.zeroValue0
  t3:=Tryz.underlying3
  a3:=Tryz.isAgg3
  z3:=Tryz.sizeOf3
  v3:=Tryz.zeroValue3
  t4:=Tryz.underlying4
  a4:=Tryz.isAgg4
  z4:=Tryz.sizeOf4
  v4:=Tryz.zeroValue4
  t9:=Tryz.underlying9
  a9:=Tryz.isAgg9
  z9:=Tryz.sizeOf9
  v9:=Tryz.zeroValue9
  t37:=Tryz.underlying37
  a37:=Tryz.isAgg37
  z37:=Tryz.sizeOf37
  v37:=Tryz.zeroValue37
  t127:=Tryz.underlying317
  a127:=Tryz.isAgg317
  z127:=Tryz.sizeOf317
  v127:=Tryz.zeroValue317
  t5:=Tryz.underlying5
  a5:=Tryz.isAgg5
  z5:=Tryz.sizeOf5
  v5:=Tryz.zeroValue5
  i0:=by kernel_rfl
  i3:=by kernel_rfl
  i4:=by kernel_rfl
  i5:=by kernel_rfl
  i9:=by kernel_rfl
  i37:=by kernel_rfl
  i127:=by kernel_rfl }
open Go.RowKit in
theorem stringslite_Clone (s:ByteArray) (w:World) (hlim:s.size≤281474976710656) :
    Calls Tryz.prog 303 #[.string s] w fun e w'=>e=.returned (.string s)∧Below w.heap.size w w':=Any.stringslite_Clone laysM316 s w hlim
def lays189_ren:Go.Shelf.Ren:=⟨fun | 189=>184 | 125=>181 | 257=>258 | 128=>254 | 129=>255 | 294=>295 | 295=>296 | 296=>297 | 297=>298 | 298=>299 | 299=>300 | 216=>211 | 300=>301 | 301=>302 | 328=>312 | 329=>289 | 330=>290 | 331=>313 | 332=>314 | 215=>272 | 343=>323 | n=>n,fun | 28=>40 | 3=>3 | 46=>159 | 0=>0 | 51=>41 | 53=>158 | 4=>4 | 183=>274 | 182=>273 | 131=>53 | 5=>5 | 9=>9 | 218=>299 | 222=>303 | 228=>313 | 229=>173 | n=>n,fun | n=>n⟩
theorem lays189:Go.Proofs.Lays.n189 Tryz.prog lays189_ren:={
  mixed:=by kernel_rfl
  f125:=Tryz.func181.trans (congrArg some (by kernel_rfl))
  f128:=Tryz.func254.trans (congrArg some (by kernel_rfl))
  f129:=Tryz.func255.trans (congrArg some (by kernel_rfl))
  f189:=Tryz.func184.trans (congrArg some (by kernel_rfl))
  f215:=Tryz.func272.trans (congrArg some (by kernel_rfl))
  f216:=Tryz.func211.trans (congrArg some (by kernel_rfl))
  f257:=Tryz.func258.trans (congrArg some (by kernel_rfl))
  f294:=Tryz.func295.trans (congrArg some (by kernel_rfl))
  f295:=Tryz.func296.trans (congrArg some (by kernel_rfl))
  f296:=Tryz.func297.trans (congrArg some (by kernel_rfl))
  f297:=Tryz.func298.trans (congrArg some (by kernel_rfl))
  f298:=Tryz.func299.trans (congrArg some (by kernel_rfl))
  f299:=Tryz.func300.trans (congrArg some (by kernel_rfl))
  f300:=Tryz.func301.trans (congrArg some (by kernel_rfl))
  f301:=Tryz.func302.trans (congrArg some (by kernel_rfl))
  f328:=Tryz.func312.trans (congrArg some (by kernel_rfl))
  f329:=Tryz.func289.trans (congrArg some (by kernel_rfl))
  f330:=Tryz.func290.trans (congrArg some (by kernel_rfl))
  f331:=Tryz.func313.trans (congrArg some (by kernel_rfl))
  f332:=Tryz.func314.trans (congrArg some (by kernel_rfl))
  f343:=Tryz.func323.trans (congrArg some (by kernel_rfl))
  t0:=Tryz.underlying0
  a0:=Tryz.isAgg0
  z0:=Tryz.sizeOf0
  v0:=Tryz.zeroValue0
  t3:=Tryz.underlying3
  a3:=Tryz.isAgg3
  z3:=Tryz.sizeOf3
  v3:=Tryz.zeroValue3
  t4:=Tryz.underlying4
  a4:=Tryz.isAgg4
  z4:=Tryz.sizeOf4
  v4:=Tryz.zeroValue4
  t5:=Tryz.underlying5
  a5:=Tryz.isAgg5
  z5:=Tryz.sizeOf5
  v5:=Tryz.zeroValue5
  t9:=Tryz.underlying9
  a9:=Tryz.isAgg9
  z9:=Tryz.sizeOf9
  v9:=Tryz.zeroValue9
  t28:=Tryz.underlying40
  a28:=Tryz.isAgg40
  z28:=Tryz.sizeOf40
  v28:=Tryz.zeroValue40
  t46:=Tryz.underlying159
  a46:=Tryz.isAgg159
  z46:=Tryz.sizeOf159
  v46:=Tryz.zeroValue159
  t51:=Tryz.underlying41
  a51:=Tryz.isAgg41
  z51:=Tryz.sizeOf41
  v51:=Tryz.zeroValue41
  t53:=Tryz.underlying158
  a53:=Tryz.isAgg158
  z53:=Tryz.sizeOf158
  v53:=Tryz.zeroValue158
  t131:=Tryz.underlying53
  a131:=Tryz.isAgg53
  z131:=Tryz.sizeOf53
  v131:=Tryz.zeroValue53
  t182:=Tryz.underlying273
  a182:=Tryz.isAgg273
  z182:=Tryz.sizeOf273
  v182:=Tryz.zeroValue273
  t183:=Tryz.underlying274
  a183:=Tryz.isAgg274
  z183:=Tryz.sizeOf274
  v183:=Tryz.zeroValue274
  t218:=Tryz.underlying299
  a218:=Tryz.isAgg299
  z218:=Tryz.sizeOf299
  v218:=Tryz.zeroValue299
  t222:=Tryz.underlying303
  a222:=Tryz.isAgg303
  z222:=Tryz.sizeOf303
  v222:=Tryz.zeroValue303
  t228:=Tryz.underlying313
  a228:=Tryz.isAgg313
  z228:=Tryz.sizeOf313
  v228:=Tryz.zeroValue313
  t229:=Tryz.underlying173
  a229:=Tryz.isAgg173
  z229:=Tryz.sizeOf173
  v229:=Tryz.zeroValue173 }
open Go.Sort Go.RowKit in
theorem slices_Sort_int (blk off cap:Nat) (zs:List Int) (w:World) (hH:Holds (Value.int .i64) w blk off zs.toArray) (hblk:blk < w.heap.size) (hsz:zs.length < 4611686018427387904) :
    Calls Tryz.prog 184 #[.slice (some ⟨blk,off,none⟩) zs.length cap] w fun e w' =>
      e=.returned (.tuple #[])∧∃ n os,w'=grow (putRow (Value.int .i64) (Sort.ahead w n) blk off (zs.mergeSort fun x y=>decide (x≤y)).toArray) os:=Any.slices_Sort_int lays189 blk off cap zs w hH hblk hsz
def laysNm215_ren:Go.Shelf.Ren:=⟨fun | 15=>71 | n=>n,fun | 22=>40 | 3=>3 | 4=>4 | n=>n,fun | n=>n⟩
theorem laysNm215:Go.Proofs.Lays2.n15 Tryz.prog laysNm215_ren:={
  mixed:=by kernel_rfl
  f15:=Tryz.func71.trans (congrArg some (by kernel_rfl))
  t3:=Tryz.underlying3
  a3:=Tryz.isAgg3
  z3:=Tryz.sizeOf3
  v3:=Tryz.zeroValue3
  t4:=Tryz.underlying4
  a4:=Tryz.isAgg4
  z4:=Tryz.sizeOf4
  v4:=Tryz.zeroValue4
  t22:=Tryz.underlying40
  a22:=Tryz.isAgg40
  z22:=Tryz.sizeOf40
  v22:=Tryz.zeroValue40
  i3:=by kernel_rfl }
open Go.RowKit Go.Lib in
theorem slices_Clone_int (b off n c:Nat) (zs:List Int) (w:World) (hz:n≤zs.length) (hbig:n*8≤140737488355328) (hc:∀ j,j < zs.length→w.cell? ⟨b,off+j,none⟩=some (.int .i64 (zs.getD j 0))) :
    Calls Tryz.prog 71 #[.slice (some ⟨b,off,none⟩) n c] w fun e w'=>∃ v',e=.returned v'∧w'.ownsRow w.heap.size 3 1 v' n ((zs.take n).map (Value.int .i64))∧v'≠.slice none 0 0∧Below w.heap.size w w':=Any.slices_Clone_int laysNm215 b off n c zs w hz hbig hc
open Go.RowKit Go.Lib in
theorem slices_Clone_int_nil (n c:Nat) (w:World) :
    Calls Tryz.prog 71 #[.slice none n c] w fun e w'=>e=.returned (.slice none 0 0)∧w'=w:=Any.slices_Clone_int_nil laysNm215 n c w
def laysNm220_ren:Go.Shelf.Ren:=⟨fun | 20=>185 | n=>n,fun | 22=>40 | 3=>3 | 4=>4 | 0=>0 | n=>n,fun | n=>n⟩
theorem laysNm220:Go.Proofs.Lays2.n20 Tryz.prog laysNm220_ren:={
  mixed:=by kernel_rfl
  f20:=Tryz.func185.trans (congrArg some (by kernel_rfl))
  t0:=Tryz.underlying0
  a0:=Tryz.isAgg0
  z0:=Tryz.sizeOf0
  v0:=Tryz.zeroValue0
  t3:=Tryz.underlying3
  a3:=Tryz.isAgg3
  z3:=Tryz.sizeOf3
  v3:=Tryz.zeroValue3
  t4:=Tryz.underlying4
  a4:=Tryz.isAgg4
  z4:=Tryz.sizeOf4
  v4:=Tryz.zeroValue4
  t22:=Tryz.underlying40
  a22:=Tryz.isAgg40
  z22:=Tryz.sizeOf40
  v22:=Tryz.zeroValue40
  i3:=by kernel_rfl }
open Go.RowKit Go.Lib Go.Sort in
theorem slices_Compact_int (blk off cap:Nat) (zs:List Int) (w:World) (hH:Holds (Value.int .i64) w blk off zs.toArray) (hsz:zs.length≤9223372036854775807) (hcap:zs.length≤cap) :
    Calls Tryz.prog 185 #[.slice (some ⟨blk,off,none⟩) zs.length cap] w fun e w'=>e=.returned (.slice (some ⟨blk,off,none⟩) (Lib.compact zs).length cap)∧∃ q,w'=putRow (Value.int .i64) (Sort.ahead w q) blk off (Lib.compact zs++List.replicate (zs.length - (Lib.compact zs).length) 0).toArray:=Any.slices_Compact_int laysNm220 blk off cap zs w hH hsz hcap
open Go.RowKit Go.Lib Go.Sort in
theorem slices_Compact_int_empty (a:Option Addr) (cap:Nat) (w:World) :
    Calls Tryz.prog 185 #[.slice a 0 cap] w fun e w'=>e=.returned (.slice a 0 cap)∧w'=w:=Any.slices_Compact_int_empty laysNm220 a cap w
def laysNm225_ren:Go.Shelf.Ren:=⟨fun | 25=>141 | 31=>211 | 32=>212 | 37=>272 | n=>n,fun | 22=>40 | 3=>3 | 4=>4 | 40=>159 | 0=>0 | n=>n,fun | n=>n⟩
theorem laysNm225:Go.Proofs.Lays2.n25 Tryz.prog laysNm225_ren:={
  mixed:=by kernel_rfl
  f25:=Tryz.func141.trans (congrArg some (by kernel_rfl))
  f31:=Tryz.func211.trans (congrArg some (by kernel_rfl))
  f32:=Tryz.func212.trans (congrArg some (by kernel_rfl))
  f37:=Tryz.func272.trans (congrArg some (by kernel_rfl))
  t0:=Tryz.underlying0
  a0:=Tryz.isAgg0
  z0:=Tryz.sizeOf0
  v0:=Tryz.zeroValue0
  t3:=Tryz.underlying3
  a3:=Tryz.isAgg3
  z3:=Tryz.sizeOf3
  v3:=Tryz.zeroValue3
  t4:=Tryz.underlying4
  a4:=Tryz.isAgg4
  z4:=Tryz.sizeOf4
  v4:=Tryz.zeroValue4
  t22:=Tryz.underlying40
  a22:=Tryz.isAgg40
  z22:=Tryz.sizeOf40
  v22:=Tryz.zeroValue40
  t40:=Tryz.underlying159
  a40:=Tryz.isAgg159
  z40:=Tryz.sizeOf159
  v40:=Tryz.zeroValue159 }
open Go.RowKit Go.Lib in
theorem slices_BinarySearch_int (b off n c:Nat) (zs:List Int) (x:Int) (w:World) (hz:n≤zs.length) (hbig:n < 4611686018427387904) (hc:∀ j,j < zs.length→w.cell? ⟨b,off+j,none⟩=some (.int .i64 (zs.getD j 0))) (hs:(zs.take n).Pairwise (·≤·)) :
    Calls Tryz.prog 141 #[.slice (some ⟨b,off,none⟩) n c,.int .i64 x] w fun e w'=>e=.returned (.tuple #[.int .i64 ((zs.take n).countP (· < x):Nat),.bool ((zs.take n).contains x)])∧∃ q,w'=w.drewN q:=Any.slices_BinarySearch_int laysNm225 b off n c zs x w hz hbig hc hs
open Go.RowKit Go.Sort in
theorem slices_Sort_int_none (p:Option Addr) (cap:Nat) (w:World) :
    Calls Tryz.prog 184 #[.slice p 0 cap] w fun e w'=>e=.returned (.tuple #[])∧w'=w:=Any.slices_Sort_int_none lays189 p cap w
open Go.RowKit Go.Lib in
theorem slices_BinarySearch_int_empty (a:Option Addr) (c:Nat) (x:Int) (w:World) :
    Calls Tryz.prog 141 #[.slice a 0 c,.int .i64 x] w fun e w'=>e=.returned (.tuple #[.int .i64 0,.bool false])∧w'=w:=Any.slices_BinarySearch_int_empty laysNm225 a c x w
end Go.Proofs.YtkelafkbmnjpeaaGreat
set_option maxHeartbeats 1000000
set_option maxRecDepth 100000
namespace Go.Proofs.YtkelafkbmnjpeaaGreat
open Go.Lib (hid)
open Go.RowKit Go.Maps Go.WideMaps
theorem Zcu (n:Nm) (w:World) (hn:n.length≤1000000):Calls Tryz.prog 259 #[.string ⟨n.toArray⟩] w fun e w'=>e=.returned (.string ⟨n.toArray⟩)∧Grows w w':=by
 have HC:=hid (stringslite_Clone ⟨n.toArray⟩ w (by rw [show (⟨n.toArray⟩:ByteArray).size=n.length by simp [ByteArray.size]];omega))
 clear hn
 go_enter Tryz.func259,Tryz.ntmps259
 go_wp2_with (fail)
 refine HC.out.mono ?_
 rintro e w' ⟨rfl,hb⟩
 have HB:=hid hb
 clear hb
 go_wp2_with (fail)
 go_ret
 exact ⟨rfl,HB.out⟩
theorem Zr2 (n:Nm) (f:Nat) (w:World) (hn:n.length≤1000000):Calls Tryz.prog 189 #[.string ⟨n.toArray⟩,.pointer (some ⟨f,0,none⟩)] w fun e w' =>
 ∃ a b,e=.returned (.func (.func 260) #[] #[ptrV b,ptrV a])∧Whole w' a 9 #[strB n]∧Whole w' b 105 #[ptrV f]∧w.heap.size≤a∧w.heap.size≤b∧Grows w w':=by
 have HC:=hid (fun w=>Zcu n w hn)
 clear hn
 go_enter Tryz.func189,Tryz.ntmps189
 have e0:∀ w',Grows ((w.alloc (.cells #[.string ⟨n.toArray⟩] 9)).alloc (.cells #[.pointer (some ⟨f,0,none⟩)] 105)) w'→Whole w' w.heap.size 9 #[strB n]∧Whole w' (w.heap.size+1) 105 #[ptrV f]:=fun w' hg=>by
  refine ⟨hg.whole ((Whole.made w _ _).alloc _),hg.whole ?_⟩
  have:=Whole.made (w.alloc (.cells #[.string ⟨n.toArray⟩] 9)) 105 #[ptrV f]
  rwa [World.size_alloc] at this
 have HE:=hid e0
 clear e0
 go_wp2_with (fail)
 refine (HC.out _).mono ?_
 rintro e w' ⟨rfl,hb⟩
 have HB:=hid hb
 have f0:=(HE.out _ hb).1.free 0
 have c0:w'.cell? ⟨w.heap.size,0,none⟩=some (.string ⟨n.toArray⟩):=(HE.out _ hb).1.cell 0
 clear hb
 go_wp2_with (fail)
 go_ret
 refine ⟨_,_,rfl,(HE.out _ HB.out).1.put 0 _,(HE.out _ HB.out).2.elsewhere (by simp) _,Nat.le_refl _,Nat.le_succ _,?_⟩
 have g1:Grows w ((w.alloc (.cells #[.string ⟨n.toArray⟩] 9)).alloc (.cells #[.pointer (some ⟨f,0,none⟩)] 105)):=(Zb w _).trans (Zb _ _)
 exact (g1.trans HB.out).setCell (p:=⟨w.heap.size,0,none⟩) (Nat.le_refl _) _
theorem Zo2 (n:Nm) (w:World) (hn:n.length≤1000000):Calls Tryz.prog 194 #[.string ⟨n.toArray⟩] w fun e w' =>
 ∃ a,e=.returned (.func (.func 261) #[] #[ptrV a])∧Whole w' a 9 #[strB n]∧w.heap.size≤a∧Grows w w':=by
 have HC:=hid (fun w=>Zcu n w hn)
 clear hn
 go_enter Tryz.func194,Tryz.ntmps194
 have e0:∀ w',Grows (w.alloc (.cells #[.string ⟨n.toArray⟩] 9)) w'→Whole w' w.heap.size 9 #[strB n]:=fun w' hg=>hg.whole (Whole.made w _ _)
 have HE:=hid e0
 clear e0
 go_wp2_with (fail)
 refine (HC.out _).mono ?_
 rintro e w' ⟨rfl,hb⟩
 have HB:=hid hb
 have f0:=(HE.out _ hb).free 0
 have c0:w'.cell? ⟨w.heap.size,0,none⟩=some (.string ⟨n.toArray⟩):=(HE.out _ hb).cell 0
 clear hb
 go_wp2_with (fail)
 go_ret
 exact ⟨_,rfl,(HE.out _ HB.out).put 0 _,Nat.le_refl _,((Zb w _).trans HB.out).setCell (p:=⟨w.heap.size,0,none⟩) (Nat.le_refl _) _⟩
theorem Zo3 (n to:Nm) (w:World) (hn:n.length≤1000000) (ht:to.length≤1000000):Calls Tryz.prog 265 #[.string ⟨n.toArray⟩,.string ⟨to.toArray⟩] w fun e w' =>
 ∃ a b,e=.returned (.func (.func 304) #[] #[ptrV a,ptrV b])∧Whole w' a 9 #[strB n]∧Whole w' b 9 #[strB to]∧w.heap.size≤a∧w.heap.size≤b∧Grows w w':=by
 have HC:=hid (fun w=>Zcu n w hn)
 have HC2:=hid (fun w=>Zcu to w ht)
 clear hn ht
 go_enter Tryz.func265,Tryz.ntmps265
 have e0:∀ w',Grows ((w.alloc (.cells #[.string ⟨n.toArray⟩] 9)).alloc (.cells #[.string ⟨to.toArray⟩] 9)) w'→Whole w' w.heap.size 9 #[strB n]∧Whole w' (w.heap.size+1) 9 #[strB to]:=fun w' hg=>by
  refine ⟨hg.whole ((Whole.made w _ _).alloc _),hg.whole ?_⟩
  have:=Whole.made (w.alloc (.cells #[.string ⟨n.toArray⟩] 9)) 9 #[strB to]
  rwa [World.size_alloc] at this
 have HE:=hid e0
 clear e0
 go_wp2_with (fail)
 refine Zf (E:=Grows) 4 [Za (.string ⟨n.toArray⟩),Za (.string ⟨n.toArray⟩),Za (.string ⟨to.toArray⟩),Za (.string ⟨to.toArray⟩)] mixed (by kernel_rfl) (fun _ _ _=>Grows.trans) (Ze _) ?_
 simp only [List.take_succ_cons,List.take_zero,List.drop_succ_cons,List.drop_zero]
 refine f_val _ (by rfl) ?_ ?_
 ·intro w' hC;have c0:w'.cell? ⟨w.heap.size,0,none⟩=some (.string ⟨n.toArray⟩):=(HE.out _ hC).1.cell 0;clear hC;go_simp
 simp only [Pu]
 refine Zv 259 #[.string ⟨n.toArray⟩] (.string ⟨n.toArray⟩) (by rfl) (by intro w' hC;clear hC;go_simp) ?_ ?_
 ·exact fun w' _ _=>HC.out w'
 simp only [Pu]
 refine f_val _ (by rfl) ?_ ?_
 ·intro w' hC;have c0:w'.cell? ⟨w.heap.size+1,0,none⟩=some (.string ⟨to.toArray⟩):=(HE.out _ hC).2.cell 0;clear hC;go_simp
 simp only [Pu]
 refine Zv 259 #[.string ⟨to.toArray⟩] (.string ⟨to.toArray⟩) (by rfl) (by intro w' hC;clear hC;go_simp) ?_ ?_
 ·exact fun w' _ _=>HC2.out w'
 simp only [Pu]
 refine Zs ?_
 intro w2 hC hks
 have HCw2:=hid hC
 clear hC hks
 have f0:=(HE.out _ HCw2.out).1.free 0
 have f1:=(HE.out _ HCw2.out).2.free 0
 have c0:w2.cell? ⟨w.heap.size,0,none⟩=some (.string ⟨n.toArray⟩):=(HE.out _ HCw2.out).1.cell 0
 have c1:w2.cell? ⟨w.heap.size+1,0,none⟩=some (.string ⟨to.toArray⟩):=(HE.out _ HCw2.out).2.cell 0
 go_wp2_with (fail)
 go_ret
 have g1:Grows w ((w.alloc (.cells #[.string ⟨n.toArray⟩] 9)).alloc (.cells #[.string ⟨to.toArray⟩] 9)):=(Zb w _).trans (Zb _ _)
 refine ⟨_,_,rfl,((HE.out _ HCw2.out).1.put 0 _).elsewhere (by simp) _,((HE.out _ HCw2.out).2.elsewhere (by simp) _).put 0 _,Nat.le_refl _,Nat.le_succ _,?_⟩
 exact ((g1.trans HCw2.out).setCell (p:=⟨w.heap.size,0,none⟩) (Nat.le_refl _) _).setCell (p:=⟨w.heap.size+1,0,none⟩) (Nat.le_succ _) _
end Go.Proofs.YtkelafkbmnjpeaaGreat
set_option maxHeartbeats 4000000
set_option maxRecDepth 100000
namespace Go.Proofs.YtkelafkbmnjpeaaGreat
open Go.Lib (hid)
open Go.RowKit Go.Maps Go.WideMaps
attribute [local irreducible] Go.wpQuiet
theorem Grows.cellq {w w':World} {g t i:Nat} {cs:Array Value} (hg:Grows w w') (h:Whole w g t cs):w'.cell? ⟨g,i,none⟩=cs[i]?:=(hg.whole h).cell i
section
variable {w:World} {d:Nat} {own:Nat→Prop} {G:Geo} {m:Dk}
theorem Zhp (w:World) (h:DkAt w d own G m) (hx:-1≤m.cut∧m.cut≤9223372036854775807) (hy:-1≤m.fail∧m.fail≤9223372036854775807) :
 Calls Tryz.prog 182 #[.pointer (some ⟨d,8,none⟩)] w fun e w1=>e=.returned (.tuple #[])∧DkAt w1 d own G { m with cut:=sooner m.cut }∧Zc (fun k=>k=d) w w1:=by
 refine (Zgj w (h.cell 8) (h.top.free 8) (by omega)).mono ?_
 rintro e w1 ⟨rfl,hw⟩
 by_cases hy:0 < m.cut
 ·rw [if_pos hy] at hw
  subst hw
  exact ⟨rfl,h.set 8 _ (by simp [Jf,sooner,hy]) rfl rfl rfl rfl rfl,(Zc.refl (fun k=>k=d) w).setCell (p:=⟨d,8,none⟩) rfl _⟩
 ·rw [if_neg hy] at hw
  subst hw
  refine ⟨rfl,?_,Zc.refl _ _⟩
  have:({ m with cut:=sooner m.cut }:Dk)=m:=by simp [sooner,hy]
  rw [this]
  exact h
theorem Zes (w:World) (h:DkAt w d own G m) (hy:-1≤m.fail∧m.fail≤9223372036854775807) :
 Calls Tryz.prog 182 #[.pointer (some ⟨d,7,none⟩)] w fun e w1=>e=.returned (.tuple #[])∧DkAt w1 d own G { m with fail:=sooner m.fail }∧Zc (fun k=>k=d) w w1:=by
 refine (Zgj w (h.cell 7) (h.top.free 7) (by omega)).mono ?_
 rintro e w1 ⟨rfl,hw⟩
 by_cases hy:0 < m.fail
 ·rw [if_pos hy] at hw
  subst hw
  exact ⟨rfl,h.set 7 _ (by simp [Jf,sooner,hy]) rfl rfl rfl rfl rfl,(Zc.refl (fun k=>k=d) w).setCell (p:=⟨d,7,none⟩) rfl _⟩
 ·rw [if_neg hy] at hw
  subst hw
  refine ⟨rfl,?_,Zc.refl _ _⟩
  have:({ m with fail:=sooner m.fail }:Dk)=m:=by simp [sooner,hy]
  rw [this]
  exact h
def Did (w:World) (d:Nat) (own:Nat→Prop) (r:Dk×Int) (e:Ending) (w':World):Prop:=e=.returned (.int .i64 r.2)∧DkTo w d own w' r.1
theorem DkTo.same {w w':World} {m':Dk} (h:DkAt w' d own G m') (hs:Zc (fun k=>k=d) w w'):DkTo w d own w' m' :=
 ⟨own,G,h,hs.wider fun k _ e=>.inl e,fun k hk=>.inl hk⟩
theorem DkTo.behind {w w1 w':World} {m':Dk} (hs:Zc (fun k=>k=d) w w1) (h:DkTo w1 d own w' m'):DkTo w d own w' m':=by
 obtain ⟨own',G',h1,h2,h3⟩:=h
 exact ⟨own',G',h1,(hs.wider fun k _ e=>.inl e).trans h2,fun k hk=>(h3 k hk).imp id fun h=>Nat.le_trans hs.size h⟩
theorem Zas (w:World) (h:DkAt w d own G m) (hx:-1≤m.cut∧m.cut≤9223372036854775807) (hy:-1≤m.fail∧m.fail≤9223372036854775807) (gf:Nat) (first caps:Array Value)
 (eg:∀ args w,(callFunc gf args).run Tryz.prog w=.ok (.enter gf args) w) (does:Dk→Dk)
 (hdo:m.down=false→m.cut≠0→m.fail≠0→∀ w1,DkAt w1 d own G m.sooner→Zc (fun k=>k=d) w w1→Calls Tryz.prog gf (first++caps) w1 fun e w2=>e=.returned (.tuple #[])∧DkTo w1 d own w2 (does m.sooner)) :
 Calls Tryz.prog 125 #[.pointer (some ⟨d,0,none⟩),.func (.func gf) first caps] w fun e w'=>Did w d own (m.thing does) e w':=by
 have c9:w.cell? ⟨d,9,none⟩=some (.bool m.down):=h.cell 9
 have H:=hid h
 cases hd:m.down with
 | true =>
   rw [hd] at c9
   have e:m.thing does=(m,82):=by unfold Dk.thing;rw [if_pos hd]
   rw [e]
   have HD:=hid hd
   clear h hd hx hy hdo e
   go_enter Tryz.func125,Tryz.ntmps125
   go_wp2
   go_ret
   exact ⟨rfl,DkTo.same H.out (Zc.refl _ _)⟩
 | false =>
 rw [hd] at c9
 have HCL:=hid (And.intro h.top hd)
 have HS:=hid (And.intro hx hy)
 have HDO:=hid (hdo hd)
 clear hx hy hdo h hd
 by_cases hc:m.cut=0
 ·have e:m.thing does=({ m.sooner with cut:=-1,down:=true },82):=by unfold Dk.thing;rw [if_neg (by rw [HCL.out.2];decide),if_pos hc]
  rw [e]
  clear e
  have HCF:=hid (show ∀ w',Grows w w'→w'.cell? ⟨d,8,none⟩=some (.int .i64 0)∧w'.cell? ⟨d,7,none⟩=some (.int .i64 m.fail) from fun w' hg=>⟨by have:=hg.cellq (i:=8) HCL.out.1;simp only [Jf,hc] at this;exact this,by have:=hg.cellq (i:=7) HCL.out.1;exact this⟩)
  have HHC:=hid hc
  skip
  skip
  skip
  skip
  skip
  clear hc 
  generalize hxf:m.fail=xf at HCF 
  generalize hxc:m.cut=xc at HCF 
  have HXF:=hid (And.intro hxf hxc)
  clear hxf hxc
  go_enter Tryz.func125,Tryz.ntmps125
  go_wp2_with (fail)
  refine Yc mixed (by kernel_rfl) ?_
  iterate 12 (refine q_op' (v:=?_) (a':=?_) (by rfl) ?_ ?_ ?_
              rotate_left 2
              ·intro w' hC
               obtain ⟨z0,z1⟩:=HCF.out w' hC
               clear hC
               go_simp
               try with_reducible rfl
              ·simp only [Pu]
               try rfl)
  refine wpQuiet_nil ?_
  intro w2 hC
  have HCw2:=hid hC
  clear hC
  have HW2:=hid (H.out.grow HCw2.out)
  clear HCF
  go_wp2_with (fail)
  refine (Zhp w2 HW2.out HS.out.1 HS.out.2).mono ?_
  rintro e w3 ⟨rfl,h3,s3⟩
  have H3:=hid h3
  have S3:=hid s3
  clear h3 s3
  go_wp2_with (fail)
  refine (Zes w3 H3.out HS.out.2).mono ?_
  rintro e w4 ⟨rfl,h4,s4⟩
  have H4:=hid (show DkAt w4 d own G m.sooner from h4)
  have S4:=hid ((HCw2.out |> Zc.grows (own:=fun k=>k=d)).trans (S3.out.trans s4))
  clear h4 s4 S3 H3
  have c8:w4.cell? ⟨d,8,none⟩=some (.int .i64 (sooner m.cut)):=H4.out.cell 8
  have f8:=H4.out.top.free 8
  have c9:w4.cell? ⟨d,9,none⟩=some (.bool m.down):=H4.out.cell 9
  have f9:=H4.out.top.free 9
  go_wp2_with (fail)
  go_ret
  have h5:DkAt (w4.setCell ⟨d,8,none⟩ (.int .i64 (-1))) d own G { m.sooner with cut:=-1 }:=H4.out.set 8 _ rfl rfl rfl rfl rfl rfl
  have h6:DkAt ((w4.setCell ⟨d,8,none⟩ (.int .i64 (-1))).setCell ⟨d,9,none⟩ (.bool true)) d own G { m.sooner with cut:=-1,down:=true }:=h5.set 9 _ rfl rfl rfl rfl rfl rfl
  exact ⟨rfl,DkTo.same h6 ((S4.out.setCell (p:=⟨d,8,none⟩) rfl _).setCell (p:=⟨d,9,none⟩) rfl _)⟩
 by_cases hf:m.fail=0
 ·have e:m.thing does=({ m.sooner with fail:=-1 },81):=by unfold Dk.thing;rw [if_neg (by rw [HCL.out.2];decide),if_neg hc,if_pos hf]
  rw [e]
  clear e
  have HCF:=hid (show ∀ w',Grows w w'→w'.cell? ⟨d,8,none⟩=some (.int .i64 m.cut)∧w'.cell? ⟨d,7,none⟩=some (.int .i64 0) from fun w' hg=>⟨by have:=hg.cellq (i:=8) HCL.out.1;exact this,by have:=hg.cellq (i:=7) HCL.out.1;simp only [Jf,hf] at this;exact this⟩)
  have HHC:=hid hc
  have d8:(m.cut==0)=false:=by simpa using hc
  have d8':decide (m.cut=0)=false:=by simpa using hc
  have HHF:=hid hf
  skip
  skip
  clear hc hf
  generalize hxf:m.fail=xf at HCF 
  generalize hxc:m.cut=xc at HCF d8 d8'
  have HXF:=hid (And.intro hxf hxc)
  clear hxf hxc
  go_enter Tryz.func125,Tryz.ntmps125
  go_wp2_with (fail)
  refine Yc mixed (by kernel_rfl) ?_
  iterate 12 (refine q_op' (v:=?_) (a':=?_) (by rfl) ?_ ?_ ?_
              rotate_left 2
              ·intro w' hC
               obtain ⟨z0,z1⟩:=HCF.out w' hC
               clear hC
               go_simp
               try with_reducible rfl
              ·simp only [Pu]
               try rfl)
  refine wpQuiet_nil ?_
  intro w2 hC
  have HCw2:=hid hC
  clear hC
  have HW2:=hid (H.out.grow HCw2.out)
  clear HCF
  go_wp2_with (fail)
  refine (Zhp w2 HW2.out HS.out.1 HS.out.2).mono ?_
  rintro e w3 ⟨rfl,h3,s3⟩
  have H3:=hid h3
  have S3:=hid s3
  clear h3 s3
  go_wp2_with (fail)
  refine (Zes w3 H3.out HS.out.2).mono ?_
  rintro e w4 ⟨rfl,h4,s4⟩
  have H4:=hid (show DkAt w4 d own G m.sooner from h4)
  have S4:=hid ((HCw2.out |> Zc.grows (own:=fun k=>k=d)).trans (S3.out.trans s4))
  clear h4 s4 S3 H3
  have c7:w4.cell? ⟨d,7,none⟩=some (.int .i64 (sooner m.fail)):=H4.out.cell 7
  have f7:=H4.out.top.free 7
  go_wp2_with (fail)
  go_ret
  have h5:DkAt (w4.setCell ⟨d,7,none⟩ (.int .i64 (-1))) d own G { m.sooner with fail:=-1 }:=H4.out.set 7 _ rfl rfl rfl rfl rfl rfl
  exact ⟨rfl,DkTo.same h5 (S4.out.setCell (p:=⟨d,7,none⟩) rfl _)⟩
 ·have e:m.thing does=({ does m.sooner with done:=wrap64 ((does m.sooner).done+1) },0):=by unfold Dk.thing;rw [if_neg (by rw [HCL.out.2];decide),if_neg hc,if_neg hf]
  rw [e]
  clear e
  have HCF:=hid (show ∀ w',Grows w w'→w'.cell? ⟨d,8,none⟩=some (.int .i64 m.cut)∧w'.cell? ⟨d,7,none⟩=some (.int .i64 m.fail) from fun w' hg=>⟨by have:=hg.cellq (i:=8) HCL.out.1;exact this,by have:=hg.cellq (i:=7) HCL.out.1;exact this⟩)
  have HHC:=hid hc
  have d8:(m.cut==0)=false:=by simpa using hc
  have d8':decide (m.cut=0)=false:=by simpa using hc
  have HHF:=hid hf
  have d7:(m.fail==0)=false:=by simpa using hf
  have d7':decide (m.fail=0)=false:=by simpa using hf
  clear hc hf
  generalize hxf:m.fail=xf at HCF d7 d7'
  generalize hxc:m.cut=xc at HCF d8 d8'
  have HXF:=hid (And.intro hxf hxc)
  clear hxf hxc
  go_enter Tryz.func125,Tryz.ntmps125
  go_wp2_with (fail)
  refine Yc mixed (by kernel_rfl) ?_
  iterate 12 (refine q_op' (v:=?_) (a':=?_) (by rfl) ?_ ?_ ?_
              rotate_left 2
              ·intro w' hC
               obtain ⟨z0,z1⟩:=HCF.out w' hC
               clear hC
               go_simp
               try with_reducible rfl
              ·simp only [Pu]
               try rfl)
  refine wpQuiet_nil ?_
  intro w2 hC
  have HCw2:=hid hC
  clear hC
  have HW2:=hid (H.out.grow HCw2.out)
  clear HCF
  go_wp2_with (fail)
  refine (Zhp w2 HW2.out HS.out.1 HS.out.2).mono ?_
  rintro e w3 ⟨rfl,h3,s3⟩
  have H3:=hid h3
  have S3:=hid s3
  clear h3 s3
  go_wp2_with (fail)
  refine (Zes w3 H3.out HS.out.2).mono ?_
  rintro e w4 ⟨rfl,h4,s4⟩
  have H4:=hid (show DkAt w4 d own G m.sooner from h4)
  have S4:=hid ((HCw2.out |> Zc.grows (own:=fun k=>k=d)).trans (S3.out.trans s4))
  clear h4 s4 S3 H3
  go_wp2_with (fail)
  refine (HDO.out HHC.out HHF.out w4 H4.out S4.out).mono ?_
  rintro e w5 ⟨rfl,own',G',h5,s5,o5⟩
  have c6:w5.cell? ⟨d,6,none⟩=some (.int .i64 (does m.sooner).done):=h5.cell 6
  have f6:=h5.top.free 6
  have H5:=hid h5
  have S5:=hid s5
  have O5:=hid o5
  clear h5 s5 o5
  generalize hm2:does m.sooner=m2 at *
  have HM2:=hid hm2
  clear hm2
  go_wp2_with (fail)
  go_ret
  obtain rfl:=HM2.out
  exact ⟨rfl,own',G',H5.out.set 6 _ rfl rfl rfl rfl rfl rfl,((S4.out.wider fun k _ e=>.inl e).trans S5.out).setCell (p:=⟨d,6,none⟩) (.inl rfl) _,fun k hk=>(O5.out k hk).imp id fun h=>Nat.le_trans S4.out.size h⟩
end
end Go.Proofs.YtkelafkbmnjpeaaGreat
namespace Go.Proofs.YtkelafkbmnjpeaaGreat
open Go.RowKit
section
variable {P:Program} {md:Region.Mode} {ops:Array Oper} {E:World→World→Prop} {W:World} {m:Nat}
end
end Go.Proofs.YtkelafkbmnjpeaaGreat
