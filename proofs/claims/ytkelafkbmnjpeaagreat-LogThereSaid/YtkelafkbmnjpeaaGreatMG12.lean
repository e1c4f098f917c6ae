/-
  Texts that the statements lean on, one behind the other.
-/
import Derived.Test.YtkelafkbmnjpeaaGreatMG11
import Derived.Laws.AppendOwn
import Derived.Test.YtkelafkbmnjpeaaGreatMG01
import Derived.LoopTactic
import Derived.IntWalk
import Derived.MapKept
import Derived.Lib.Hide
set_option linter.unusedVariables false
set_option linter.unusedSimpArgs false
set_option maxHeartbeats 8000000
set_option maxRecDepth 100000
namespace Go.Proofs.YtkelafkbmnjpeaaGreat
open Go.Lib (hid)
open Go.RowKit

theorem infoLoc:(Tryz.prog.info? 140).map (fun i=>(i.zero,i.size,i.bytes))=some (some (.agg #[.int .i64 0,.int .i64 0,.int .i64 0]),3,24):=by kernel_rfl
theorem Zvf {w:World} {g ty:Nat} {l:Lc} (hw:Whole w g ty #[.int .i64 l.1,.int .i64 l.2.1,.int .i64 l.2.2]):∀ j u,(lcV l)[j]?=some u→w.cell? ((⟨g,0,none⟩:Addr).add j)=some u:=by
 intro j u hj
 rw [show (⟨g,0,none⟩:Addr).add j=⟨g,j,none⟩ by unfold Addr.add;split <;> simp_all,hw.cell j]
 simpa [lcV] using hj
theorem Zur (l:Lc):∀ u∈lcV l,u.oneCell'=true:=by
 intro u hu
 simp only [lcV,List.mem_cons,List.not_mem_nil,or_false] at hu
 rcases hu with rfl | rfl | rfl <;> rfl
theorem Zkv {w:World} {base:Nat} {e:TypeId} {size:Nat} {v:Value} {n:Nat} {xs:List Value} (h:w.ownsRow base e size v n xs):∃ A c,v=.slice A n c:=by
 rcases h.2 with ⟨rfl,rfl⟩ | ⟨g,cap,_,rfl,_⟩
 ·exact ⟨none,0,rfl⟩
 ·exact ⟨_,cap,rfl⟩
section
variable {ops:Array Oper} {rest:List Oper} {o:Oper} {a:Act} {w:World} {Q:Exit→Act→World→Prop}
theorem Ze9 (hgd:o.guard=none) (s x:Operand) (ho:o.op=.call { callee:=.builtin .append,args:=#[s,x],argTypes:=#[36,36] })
 {base:Nat} {LA:Option Addr} {n lc:Nat} {ts:List Lc} (hs:a.eval s=.slice LA n lc) (hown:w.ownsRow base 140 3 (.slice LA n lc) n (lcCells ts))
 {g ty:Nat} (t:Lc) (hx:a.eval x=.slice (some ⟨g,0,none⟩) 1 1) (hw:Whole w g ty #[.int .i64 t.1,.int .i64 t.2.1,.int .i64 t.2.2]) (hn:n≤1000000) (hbase:base≤w.heap.size)
 (hk:∀ A' c' w',w'.ownsRow base 140 3 (.slice A' (n+1) c') (n+1) (lcCells (ts++[t]))→Below base w w'→wpList Tryz.prog ops Q rest (a.put o.dst (.slice A' (n+1) c')) w'):wpList Tryz.prog ops Q (o :: rest) a w:=by
 obtain ⟨i0,hi,hz0,hz1,hz2⟩:=info_parts infoLoc
 refine wpList_append_own w hgd s x 36 ho base 140 i0 _ 3 24 Tryz.underlying36 hi hz0 hz1 hz2 rfl (by decide) (.slice LA n lc) n (lcCells ts) hs hown ⟨g,0,none⟩ 1 1 (lcV t) hx rfl (Zvf hw) (Zur t) (by unfold maxLen;omega) (by omega) hbase fun v' w' h1 h2 _=>?_
 obtain ⟨A',c',rfl⟩:=Zkv h1
 rw [show lcCells ts++lcV t=lcCells (ts++[t]) by rw [lcCells_append];simp [lcCells]] at h1
 exact hk A' c' w' h1 ((Below.refl _ w).grown h2 hbase fun k hk=>(hown.lt k hk).1)
end

theorem Zsj (s:Src):(numS s 2).1 < 65536:=by
 have h:=Zam (takeS s 2).1
 have hl:(takeS s 2).1.length≤2:=by
  unfold takeS
  split
  ·simp
  ·simp;omega
 unfold numS
 dsimp only
 obtain e | e | e:(takeS s 2).1.length=0∨(takeS s 2).1.length=1∨(takeS s 2).1.length=2:=by omega
 all_goals
  rw [e] at h
  simp at h
  omega
theorem Znm {k:Nat} {s:Src} {acc:List Lc} (h:(locS s).2.2=true):locsL (k+1) s acc=([],(locS s).2):=by
 rw [locsL,if_pos h]
theorem Zsk {k:Nat} {s:Src} {acc:List Lc} (h:(locS s).2.2=false):locsL (k+1) s acc=locsL k (locS s).2 (acc++[(locS s).1]):=by
 rw [locsL,if_neg (by rw [h];simp)]
theorem Zsl (s:Src):(locS s).2.1.length≤s.1.length:=Nat.le_trans (Yr _ _) (Nat.le_trans (Yr _ _) (Yr _ _))

theorem Zpu (g:Nat) (s:Src) (w:World) (h:At w g s) (hs:s.1.length≤140737488351232) :
 Calls Tryz.prog 280 #[.pointer (some ⟨g,0,none⟩)] w fun e w'=>∃ A n c,e=.returned (.slice A n c)∧w'.ownsRow w.heap.size 140 3 (.slice A n c) n (lcCells (locsS s).1)∧(locsS s).1.length=n∧At w' g (locsS s).2∧Turns g w w':=by
 have hg:=h.lt
 have h1:=Za3 g s 2 w h (by omega) hs
 have hlt:=Zsj s
 have hsl:=Yr s 2
 obtain ⟨N,hN⟩:=Zma s 2
 unfold locsS
 rw [show ((2:Nat):Int)=2 from rfl] at h1
 rw [hN] at h1 hlt
 rw [hN,Int.toNat_natCast]
 generalize (numS s 2).2=s1 at *
 have H1:=hid h1
 have hN2:N≤65536:=by omega
 clear h1 h hN hlt
 obtain ⟨R,hR⟩:∃ R,locsL N s1 []=R:=⟨_,rfl⟩
 rw [hR]
 have HR:=hid hR
 clear hR
 go_enter Tryz.func280,Tryz.ntmps280
 go_wp2_with (fail)
 refine H1.out.mono ?_
 rintro e w1 ⟨rfl,ha,ht⟩
 have HA:=hid (And.intro ha ht)
 clear ha ht
 go_wp2_with (fail)
 go_loopw [3,7] (fun a i wr=>∃ (A:Option Addr) (c k n:Nat) (s':Src) (acc:List Lc),k≤N∧n≤k∧i=.int .i64 (k:Nat)∧a=.slice A n c∧Hid (acc.length=n∧locsL (N - k) s' acc=R)∧Hid (At wr g s'∧s'.1.length≤s.1.length)∧Hid (wr.ownsRow w.heap.size 140 3 (.slice A n c) n (lcCells acc))∧Hid (Turns g w wr)) (fun _ i _=>N - (intOf i).toNat)
 case atStart=>exact ⟨none,0,0,0,s1,[],by omega,by omega,rfl,rfl,hid ⟨rfl,by simpa using HR.out⟩,hid ⟨HA.out.1,hsl⟩,hid (World.ownsRow_nil _ _ _ _),hid HA.out.2⟩
 case round =>
  obtain ⟨A,c,k,n,s',acc,hk,hnk,rfl,rfl,HE,HS,HO,HT⟩:=hrel
  by_cases hlt:k < N
  ·have hq:N - k=(N - (k+1))+1:=by omega
   have he0:=HE.out.2
   rw [hq] at he0
   have he:((locS s').2.2=true→([],(locS s').2)=R)∧((locS s').2.2=false→locsL (N - (k+1)) (locS s').2 (acc++[(locS s').1])=R):=⟨fun h=>(Znm h).symm.trans he0,fun h=>(Zsk h).symm.trans he0⟩
   clear he0
   have hle:=Zsl s'
   have hl0:=HS.out.2
   have l1:=Yr s' 4
   have l2:=Yr (numS s' 4).2 4
   have C1:=hid (Za3 g s' 4 wr HS.out.1 (by omega) (by omega))
   have C2:=hid (fun (w2:World) (h:At w2 g (numS s' 4).2)=>Za3 g (numS s' 4).2 4 w2 h (by omega) (by omega))
   have C3:=hid (fun (w2:World) (h:At w2 g (numS (numS s' 4).2 4).2)=>Za3 g (numS (numS s' 4).2 4).2 2 w2 h (by omega) (by omega))
   rw [show ((4:Nat):Int)=4 from rfl] at C1 C2
   rw [show ((2:Nat):Int)=2 from rfl] at C3
   unfold locS at he hle
   dsimp only at he hle
   generalize numS (numS (numS s' 4).2 4).2 2=z at *
   generalize numS (numS s' 4).2 4=y at *
   generalize numS s' 4=x at *
   obtain ⟨z0,zs,zb⟩:=z
   dsimp only at he hle C3
   have HE2:=hid he
   have k0:(k:Int) < (N:Int):=by omega
   have HLE:=hid hle
   clear he hle hq l1 l2 hl0
   go_wp2_with (fail)
   refine C1.out.mono ?_
   rintro e w2 ⟨rfl,ha2,ht2⟩
   have HA2:=hid (And.intro ha2 ht2)
   clear ha2 ht2
   go_wp2_with (fail)
   refine (C2.out w2 HA2.out.1).mono ?_
   rintro e w3 ⟨rfl,ha3,ht3⟩
   have HA3:=hid (And.intro ha3 (HA2.out.2.trans ht3))
   clear ha3 ht3
   go_wp2_with (fail)
   refine (C3.out w3 HA3.out.1).mono ?_
   rintro e w4 ⟨rfl,ha4,ht4⟩
   have HA4:=hid (And.intro ha4 (HA3.out.2.trans ht4))
   have hlt4:=ha4.lt
   obtain ⟨A4,n4,c4,hw4,hl4⟩:=ha4
   have d1:=hw4.cell 1
   simp only [Gt] at d1
   have hsz4:w.heap.size≤w4.heap.size:=Nat.le_trans HT.out.size HA4.out.2.size
   have HO4:=hid (Jv HO.out HA4.out.2 hg)
   clear hw4 hl4 ht4
   cases zb with
   | true =>
     go_wp2_with (fail)
     go_ret
     have he:=HE2.out.1 (by simp)
     subst he
     exact ⟨none,0,0,rfl,World.ownsRow_nil _ _ _ _,rfl,HA4.out.1.up (Zb _ _),(HT.out.trans HA4.out.2).trans (Turns.grow (Zb _ _))⟩
   | false =>
     have hx5:=Whole.made w4 140 #[.int .i64 x.1,.int .i64 y.1,.int .i64 z0]
     have hx6:=Whole.made (w4.alloc (.cells #[.int .i64 x.1,.int .i64 y.1,.int .i64 z0] 140)) 140 #[.int .i64 x.1,.int .i64 y.1,.int .i64 z0]
     rw [World.size_alloc] at hx6
     have HX:=hid hx6
     have HG6:=hid (Grows.trans (Zb w4 (.cells #[.int .i64 x.1,.int .i64 y.1,.int .i64 z0] 140)) (Zb _ (.cells #[.int .i64 x.1,.int .i64 y.1,.int .i64 z0] 140)))
     clear hx5 hx6
     go_wp2_with (at_builtin
                  refine Ze9 rfl (.tmp 20) (.tmp 22) rfl (base:=w.heap.size) rfl (Zd HO4.out HG6.out) (x.1,y.1,z0) rfl HX.out (by omega) (Nat.le_trans hsz4 HG6.out.size) ?_
                  intro A7 c7 w7 ho7 hb7
                  have HO7:=hid ho7
                  have HB7:=hid hb7
                  clear ho7 hb7)
     go_roundw
     case rel =>
      have he:=HE2.out.2 (by simp)
      refine ⟨A7,c7,k+1,n+1,(zs,false),acc++[(x.1,y.1,z0)],by omega,by omega,by go_num,rfl,hid ⟨by rw [List.length_append,HE.out.1];rfl,he⟩,hid ⟨?_,Nat.le_trans HLE.out HS.out.2⟩,HO7,hid ?_⟩
      ·exact (HA4.out.1.up HG6.out).under HB7.out hg
      ·exact ((HT.out.trans HA4.out.2).trans (Turns.grow HG6.out)).then HB7.out
     case measure=>simp [intOf];omega
  ·obtain rfl:k=N:=by omega
   have he:=HE.out.2
   rw [Nat.sub_self,locsL] at he
   have hn:=HE.out.1
   subst he hn
   go_wp2_with (fail)
   go_ret
   exact ⟨A,acc.length,c,rfl,HO.out,rfl,HS.out.1,HT.out⟩
end Go.Proofs.YtkelafkbmnjpeaaGreat

set_option maxHeartbeats 4000000
set_option maxRecDepth 100000
namespace Go.Proofs.YtkelafkbmnjpeaaGreat
open Go.Lib (hid)
open Go.RowKit

theorem Zsi (g:Nat) (s:Src) (w:World) (h:At w g s) (hs:s.1.length≤140737488351232) :
 Calls Tryz.prog 218 #[.pointer (some ⟨g,0,none⟩)] w fun e w'=>∃ LA ln lc BA bn bc,e=.returned (.agg #[.int .i64 0,.string ⟨(rootS s).1.key.toArray⟩,.int .i64 (rootS s).1.id,.int .i64 (rootS s).1.no,.int .i64 (rootS s).1.size,.slice LA ln lc,.slice BA bn bc])∧RcOwn w' w.heap.size LA ln lc BA bn bc (rootS s).1∧At w' g (rootS s).2∧Turns g w w':=by
 have hg:=h.lt
 have hk:=Nat.le_trans (Zbt (numS s 1).2 (numS s 1).1).2 (Yr s 1)
 have hks:(keyS s).2.1.length≤s.1.length:=hk
 have h6:=Yr (keyS s).2 6
 have h3:=Yr (numS (keyS s).2 6).2 3
 have H1:=hid (Zmb g s (w.alloc (.cells #[.int .i64 0,.string ⟨#[]⟩,.int .i64 0,.int .i64 0,.int .i64 0,.slice none 0 0,.slice none 0 0] 196)) (h.up (Zb _ _)) hs)
 have H2:=hid (fun (w1:World) (h:At w1 g (keyS s).2)=>Za3 g (keyS s).2 6 w1 h (by omega) (by omega))
 have H3:=hid (fun (w1:World) (h:At w1 g (numS (keyS s).2 6).2)=>Za3 g (numS (keyS s).2 6).2 3 w1 h (by omega) (by omega))
 have H4:=hid (fun (w1:World) (h:At w1 g (numS (numS (keyS s).2 6).2 3).2)=>Zpu g (numS (numS (keyS s).2 6).2 3).2 w1 h (by omega))
 have HZ:=hid (Whole.made w 196 #[.int .i64 0,.string ⟨#[]⟩,.int .i64 0,.int .i64 0,.int .i64 0,.slice none 0 0,.slice none 0 0])
 clear h h6 h3 hk hks
 unfold rootS
 dsimp only
 rw [show ((6:Nat):Int)=6 from rfl] at H2
 rw [show ((3:Nat):Int)=3 from rfl] at H3
 generalize locsS (numS (numS (keyS s).2 6).2 3).2=r at *
 generalize numS (numS (keyS s).2 6).2 3=y at *
 generalize numS (keyS s).2 6=x at *
 generalize keyS s=k at *
 go_enter Tryz.func218,Tryz.ntmps218
 go_wp2_with (fail)
 refine (H1.out).mono ?_
 rintro e w1 ⟨rfl,ha1,ht1⟩
 have HZ1:=hid (ht1.whole HZ.out (by omega))
 have HA1:=hid (And.intro ha1 (Turns.trans (Turns.grow (Zb _ _)) ht1))
 clear ha1 ht1
 go_wp2_with (fail)
 refine (H2.out w1 HA1.out.1).mono ?_
 rintro e w2 ⟨rfl,ha2,ht2⟩
 have HZ2:=hid (ht2.whole HZ1.out (by omega))
 have HA2:=hid (And.intro ha2 (HA1.out.2.trans ht2))
 clear ha2 ht2
 go_wp2_with (fail)
 refine (H3.out w2 HA2.out.1).mono ?_
 rintro e w3 ⟨rfl,ha3,ht3⟩
 have HZ3:=hid (ht3.whole HZ2.out (by omega))
 have HA3:=hid (And.intro ha3 (HA2.out.2.trans ht3))
 clear ha3 ht3
 go_wp2_with (fail)
 refine (H4.out w3 HA3.out.1).mono ?_
 rintro e w4 ⟨A4,m4,c4,rfl,ho4,hn4,ha4,ht4⟩
 have hz:=ht4.whole HZ3.out (by omega)
 have HZ4:=hid hz
 have HA4:=hid (And.intro ha4 (HA3.out.2.trans ht4))
 have HO:=hid (And.intro ho4 (And.intro HZ3.out.lt hn4))
 have zc0:=hz.cell 0
 have zf0:=hz.free 0
 have zc1:=hz.cell 1
 have zf1:=hz.free 1
 have zc2:=hz.cell 2
 have zf2:=hz.free 2
 have zc3:=hz.cell 3
 have zf3:=hz.free 3
 have zc4:=hz.cell 4
 have zf4:=hz.free 4
 have zc5:=hz.cell 5
 have zf5:=hz.free 5
 have zc6:=hz.cell 6
 have zf6:=hz.free 6
 simp only [Gt] at zc0 zc1 zc2 zc3 zc4 zc5 zc6
 clear ho4 hn4 ha4 ht4 hz
 go_wp2_with (fail)
 obtain ⟨W,hW,hwh,hwt⟩:=Y6 HZ4.out (.int .i64 0) (.string ⟨k.1.toArray⟩) (.int .i64 x.1) (.int .i64 0) (.int .i64 y.1) (.slice A4 m4 c4) (.slice none 0 0)
 rw [hW]
 have HWB:=hid (And.intro hwt (hwt.below (by have:=HZ4.out.lt;omega)))
 clear hW hwt
 refine bodyPost_ret (results_cell_row rfl _ _ w.heap.size _ _ (0,0) _ rfl hwh Tryz.underlying196 rfl (by kernel_rfl)) rfl ?_
 exact ⟨A4,m4,c4,none,0,0,rfl,⟨Zh (Jv HO.out.1 HWB.out.1 HO.out.2.1) HA3.out.2.size,HO.out.2.2,World.ownsRow_nil _ _ _ _⟩,HA4.out.1.under HWB.out.2 hg,HA4.out.2.then HWB.out.2⟩
end Go.Proofs.YtkelafkbmnjpeaaGreat

namespace Go.Proofs.YtkelafkbmnjpeaaGreat
open Go.RowKit

theorem Zsn (s:ByteArray):s.data.size=s.size:=rfl
theorem Je (s:ByteArray):s.toList=[]↔s.size < 1:=by
 rw [ByteArray.toList_eq,Array.toList_eq_nil_iff,←Array.size_eq_zero_iff,Zsn]
 omega

theorem Zu9 (a lo hi:Int) (w:World) :
 Calls Tryz.prog 267 #[.int .i64 a,.int .i64 lo,.int .i64 hi] w fun e w'=>e=.returned (.bool (decide (lo≤a∧a≤hi)))∧Below w.heap.size w w':=by
 go_enter Tryz.func267,Tryz.ntmps267
 go_wp2
 all_goals
  go_ret
  refine ⟨Zm (by rw [Bool.eq_iff_iff];simp [Je,-Nat.lt_one_iff] at *;omega),?_⟩
  first | exact Below.refl _ _ | exact Zb _ _ | exact Grows.trans (Zb _ _) (Zb _ _)

theorem Zus (s:ByteArray) (w:World) :
 Calls Tryz.prog 206 #[.string s] w fun e w'=>e=.returned (.bool (decide (1≤s.size∧s.size≤64)))∧Below w.heap.size w w':=by
 go_enter Tryz.func206,Tryz.ntmps206
 go_wp2
 all_goals
  go_ret
  refine ⟨Zm (by rw [Bool.eq_iff_iff];simp [Je,-Nat.lt_one_iff] at *;omega),?_⟩
  first | exact Below.refl _ _ | exact Zb _ _ | exact Grows.trans (Zb _ _) (Zb _ _)

theorem Zh8 (k:Int) (s:ByteArray) (id no size:Int) (LA:Option Addr) (ln lc:Nat) (BA:Option Addr) (bn bc:Nat) (w:World) :
 Calls Tryz.prog 222 #[.agg #[.int .i64 k,.string s,.int .i64 id,.int .i64 no,.int .i64 size,.slice LA ln lc,.slice BA bn bc]] w fun e w'=>e=.returned (.bool (decide ((id=0∧no=0∧size=0∧ln=0)∧(1≤s.size∧s.size≤64)∧bn=0)))∧Below w.heap.size w w':=by
 go_enter Tryz.func222,Tryz.ntmps222
 go_wp2
 all_goals
  go_ret
  refine ⟨Zm (by rw [Bool.eq_iff_iff];simp [Je,-Nat.lt_one_iff] at *;omega),?_⟩
  first | exact Below.refl _ _ | exact Zb _ _ | exact Grows.trans (Zb _ _) (Zb _ _)

theorem Zfd (k:Int) (s:ByteArray) (id no size:Int) (LA:Option Addr) (ln lc:Nat) (BA:Option Addr) (bn bc:Nat) (w:World) :
 Calls Tryz.prog 219 #[.agg #[.int .i64 k,.string s,.int .i64 id,.int .i64 no,.int .i64 size,.slice LA ln lc,.slice BA bn bc]] w fun e w'=>e=.returned (.bool (decide ((id=0∧no=0∧size=0∧ln=0)∧(1≤s.size∧s.size≤64)∧bn≤4096)))∧Below w.heap.size w w':=by
 go_enter Tryz.func219,Tryz.ntmps219
 go_wp2
 all_goals
  go_ret
  refine ⟨Zm (by rw [Bool.eq_iff_iff];simp [Je,-Nat.lt_one_iff] at *;omega),?_⟩
  first | exact Below.refl _ _ | exact Zb _ _ | exact Grows.trans (Zb _ _) (Zb _ _)

theorem Zf9 (k:Int) (s:ByteArray) (id no size:Int) (LA:Option Addr) (ln lc:Nat) (BA:Option Addr) (bn bc:Nat) (w:World) :
 Calls Tryz.prog 213 #[.agg #[.int .i64 k,.string s,.int .i64 id,.int .i64 no,.int .i64 size,.slice LA ln lc,.slice BA bn bc]] w fun e w'=>e=.returned (.bool (decide (s.size < 1∧size=0∧ln=0∧(0≤id∧id≤1099511627776)∧(0≤no∧no≤511)∧1≤bn∧bn≤4096)))∧Below w.heap.size w w':=by
 go_enter Tryz.func213,Tryz.ntmps213
 go_wp2
 all_goals
  go_ret
  refine ⟨Zm (by rw [Bool.eq_iff_iff];simp [Je,-Nat.lt_one_iff] at *;omega),?_⟩
  first | exact Below.refl _ _ | exact Zb _ _ | exact Grows.trans (Zb _ _) (Zb _ _)

end Go.Proofs.YtkelafkbmnjpeaaGreat
