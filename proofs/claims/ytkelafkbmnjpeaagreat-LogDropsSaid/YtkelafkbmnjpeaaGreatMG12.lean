/-
  Texts that the statements lean on, one behind the other.
-/
import Derived.Test.YtkelafkbmnjpeaaGreatMG11
import Derived.Laws.AppendOwn
import Derived.Test.YtkelafkbmnjpeaaGreatMG01
import Derived.LoopTactic
import Derived.IntWalk
import Derived.MapKept
import Derived.Lib.Hide
set_option linter.unusedSimpArgs false
set_option maxHeartbeats 4000000
set_option maxRecDepth 100000
namespace Go.Proofs.YtkelafkbmnjpeaaGreat
open Go.Lib (hid)
open Go.RowKit

theorem Turns.whole {g k t:Nat} {w w':World} {cs:Array Value} (h:Turns g w w') (hw:Whole w k t cs) (hk:k≠g):Whole w' k t cs:=by
 unfold Whole
 rw [h.block k hw.lt (fun e=>hk (by injection e))]
 exact hw
theorem Turns.then {g:Nat} {w w1 W:World} (h:Turns g w w1) (hb:Below w.heap.size w1 W):Turns g w W :=
 ⟨hb.os.trans h.os,hb.tape.trans h.tape,hb.output.trans h.output,Nat.le_trans h.size hb.size,fun k hk hne=>(hb.block k hk).trans (h.block k hk hne)⟩
theorem At.under {g k:Nat} {w W:World} {s:Src} (h:At w g s) (hb:Below k w W) (hk:g < k):At W g s:=by
 obtain ⟨A,n,c,hw,hl⟩:=h
 exact ⟨A,n,c,hw.below hb hk,hl.carry (Below.mono hb (Nat.le_of_lt hk))⟩
structure RcOwn (w:World) (base:Nat) (LA:Option Addr) (ln lc:Nat) (BA:Option Addr) (bn bc:Nat) (r:Rc):Prop where
 locs:w.ownsRow base 140 3 (.slice LA ln lc) ln (lcCells r.locs)
 len:r.locs.length=ln
 b:w.ownsRow base 5 1 (.slice BA bn bc) bn (r.b.map byteV)
theorem RcOwn.inn {w:World} {base:Nat} {LA:Option Addr} {ln lc:Nat} {BA:Option Addr} {bn bc:Nat} {r:Rc} (h:RcOwn w base LA ln lc BA bn bc r):RcIn w LA ln lc BA bn bc r:=⟨Locs.owned h.len h.locs,Sl.owned h.b⟩
theorem RcOwn.grow {w w':World} {base:Nat} {LA:Option Addr} {ln lc:Nat} {BA:Option Addr} {bn bc:Nat} {r:Rc} (h:RcOwn w base LA ln lc BA bn bc r) (hg:Grows w w'):RcOwn w' base LA ln lc BA bn bc r:=⟨Zd h.locs hg,h.len,Zd h.b hg⟩
theorem RcOwn.nil (w:World) (base:Nat) (k:Int) (s:List UInt8) (id no size:Int):RcOwn w base none 0 0 none 0 0 ⟨k,s,id,no,size,[],[]⟩:=⟨World.ownsRow_nil _ _ _ _,rfl,World.ownsRow_nil _ _ _ _⟩
theorem Jp {w:World} {k t:Nat} {u0 u1 u2 u3 u4 u5 u6:Value} (h:Whole w k t #[u0,u1,u2,u3,u4,u5,u6]) (v0 v1 v2 v3 v4 v5 v6:Value) :
 ∃ W,(((((((w.setCell ⟨k,0,none⟩ v0).setCell ⟨k,1,none⟩ v1).setCell ⟨k,2,none⟩ v2).setCell ⟨k,3,none⟩ v3).setCell ⟨k,4,none⟩ v4).setCell ⟨k,5,none⟩ v5).setCell ⟨k,6,none⟩ v6)=W∧Whole W k t #[v0,v1,v2,v3,v4,v5,v6]∧Turns k w W :=
 ⟨_,rfl,by
  have hp:=((((((h.put 0 v0).put 1 v1).put 2 v2).put 3 v3).put 4 v4).put 5 v5).put 6 v6
  simp only [List.setIfInBounds_toArray,List.set_cons_zero,List.set_cons_succ] at hp
  exact hp,((((((Turns.set 0 v0).trans (Turns.set 1 v1)).trans (Turns.set 2 v2)).trans (Turns.set 3 v3)).trans (Turns.set 4 v4)).trans (Turns.set 5 v5)).trans (Turns.set 6 v6)⟩
theorem J8 {k base:Nat} {w W:World} {e size:Nat} {v:Value} {n:Nat} {xs:List Value} (h:w.ownsRow base e size v n xs) (ht:Turns k w W) (hk:k < base):W.ownsRow base e size v n xs :=
 h.kept ht (by
  rcases h.2 with ⟨rfl,_⟩ | ⟨g,cap,cur,rfl,hg,_⟩
  ·exact .inl rfl
  ·exact .inr (fun e=>by simp [Value.ownBlock] at e;omega))
theorem RcOwn.turn {w W:World} {k base:Nat} {LA:Option Addr} {ln lc:Nat} {BA:Option Addr} {bn bc:Nat} {r:Rc} (h:RcOwn w base LA ln lc BA bn bc r) (ht:Turns k w W) (hk:k < base):RcOwn W base LA ln lc BA bn bc r:=⟨J8 h.locs ht hk,h.len,J8 h.b ht hk⟩
theorem RcOwn.from {w:World} {b1 base:Nat} {LA:Option Addr} {ln lc:Nat} {BA:Option Addr} {bn bc:Nat} {r:Rc} (h:RcOwn w b1 LA ln lc BA bn bc r) (hb:base≤b1):RcOwn w base LA ln lc BA bn bc r:=⟨Zg h.locs hb,h.len,Zg h.b hb⟩

theorem Zub (g:Nat) (s:Src) (w:World) (h:At w g s) (hs:s.1.length≤140737488351232) :
 Calls Tryz.prog 224 #[.pointer (some ⟨g,0,none⟩)] w fun e w'=>∃ LA ln lc BA bn bc,e=.returned (.agg #[.int .i64 0,.string ⟨(tombS s).1.key.toArray⟩,.int .i64 (tombS s).1.id,.int .i64 (tombS s).1.no,.int .i64 (tombS s).1.size,.slice LA ln lc,.slice BA bn bc])∧RcOwn w' w.heap.size LA ln lc BA bn bc (tombS s).1∧At w' g (tombS s).2∧Turns g w w':=by
 have hg:=h.lt
 have H1:=hid (Zjf g s (w.alloc (.cells #[.int .i64 0,.string ⟨#[]⟩,.int .i64 0,.int .i64 0,.int .i64 0,.slice none 0 0,.slice none 0 0] 196)) (h.up (Za _ _)) hs)
 have hz0:=Whole.made w 196 #[.int .i64 0,.string ⟨#[]⟩,.int .i64 0,.int .i64 0,.int .i64 0,.slice none 0 0,.slice none 0 0]
 have HZ:=hid hz0
 clear h hz0
 unfold tombS
 dsimp only
 generalize restS s=r at *
 go_enter Tryz.func224,Tryz.ntmps224
 go_wp2_with (fail)
 refine H1.out.mono ?_
 rintro e w1 ⟨A,m,c,rfl,hl,ha,ht⟩
 have hst:=Z8 (hl.sl (Nat.le_of_lt ha.lt))
 have hz:=ht.whole HZ.out (by omega)
 have HZ1:=hid hz
 have HA:=hid (And.intro ha (Turns.trans (Turns.grow (Za _ _)) ht))
 have zc0:=hz.cell 0
 have zf0:=hz.free 0
 have zc1:=hz.cell 1
 have zf1:=hz.free 1
 have zc2:=hz.cell 2
 have zf2:=hz.free 2
 have zc3:=hz.cell 3
 have zf3:=hz.free 3
 have zc4:=hz.cell 4
 have zf4:=hz.free 4
 have zc5:=hz.cell 5
 have zf5:=hz.free 5
 have zc6:=hz.cell 6
 have zf6:=hz.free 6
 simp only [Gt] at zc0 zc1 zc2 zc3 zc4 zc5 zc6
 clear hl ha ht hz
 go_wp2_with (fail)
 obtain ⟨W,hW,hwh,hwt⟩:=Jp HZ1.out (.int .i64 0) (.string ⟨r.1.toArray⟩) (.int .i64 0) (.int .i64 0) (.int .i64 0) (.slice none 0 0) (.slice none 0 0)
 rw [hW]
 have HWB:=hid (And.intro hwt (hwt.below (by have:=HZ1.out.lt;omega)))
 clear hW hwt
 refine bodyPost_ret (results_cell_row rfl _ _ w.heap.size _ _ (0,0) _ rfl hwh Tryz.underlying196 rfl (by kernel_rfl)) rfl ?_
 exact ⟨none,0,0,none,0,0,rfl,RcOwn.nil _ _ _ _ _ _ _,HA.out.1.under HWB.out.2 hg,HA.out.2.then HWB.out.2⟩

theorem Zoz (g:Nat) (s:Src) (w:World) (h:At w g s) (hs:s.1.length≤140737488351232) :
 Calls Tryz.prog 221 #[.pointer (some ⟨g,0,none⟩)] w fun e w'=>∃ LA ln lc BA bn bc,e=.returned (.agg #[.int .i64 0,.string ⟨(Y6 s).1.key.toArray⟩,.int .i64 (Y6 s).1.id,.int .i64 (Y6 s).1.no,.int .i64 (Y6 s).1.size,.slice LA ln lc,.slice BA bn bc])∧RcOwn w' w.heap.size LA ln lc BA bn bc (Y6 s).1∧At w' g (Y6 s).2∧Turns g w w':=by
 have hg:=h.lt
 have hks:(keyS s).2.1.length≤s.1.length:=Nat.le_trans (Zcd _ _).2 (Yz s 1)
 have H1:=hid (Znr g s (w.alloc (.cells #[.int .i64 0,.string ⟨#[]⟩,.int .i64 0,.int .i64 0,.int .i64 0,.slice none 0 0,.slice none 0 0] 196)) (h.up (Za _ _)) hs)
 have hr:=fun (w1:World) (h:At w1 g (keyS s).2)=>Zjf g (keyS s).2 w1 h (by omega)
 have hrl:(restS (keyS s).2).1.length≤s.1.length:=Nat.le_trans (Zcd _ _).1 hks
 have HZ:=hid (Whole.made w 196 #[.int .i64 0,.string ⟨#[]⟩,.int .i64 0,.int .i64 0,.int .i64 0,.slice none 0 0,.slice none 0 0])
 have HR:=hid hr
 clear h hr
 unfold Y6
 dsimp only
 generalize restS (keyS s).2=r at *
 generalize keyS s=k at *
 go_enter Tryz.func221,Tryz.ntmps221
 go_wp2_with (fail)
 refine (H1.out).mono ?_
 rintro e w1 ⟨rfl,ha1,ht1⟩
 have HZ1:=hid (ht1.whole HZ.out (by omega))
 have HA1:=hid (And.intro ha1 (Turns.trans (Turns.grow (Za _ _)) ht1))
 clear ha1 ht1
 go_wp2_with (fail)
 refine (HR.out w1 HA1.out.1).mono ?_
 rintro e w2 ⟨A2,m2,c2,rfl,hl2,ha2,ht2⟩
 have hlen:=Bytes.len hl2.bytes
 have HS2:=hid (hl2.sl (Nat.le_of_lt ha2.lt))
 have HA2:=hid (And.intro ha2 (HA1.out.2.trans ht2))
 have HZ2:=hid (ht2.whole HZ1.out (by omega))
 clear hl2 ha2 ht2
 go_wp2_with (fail)
 refine (Zif A2 m2 c2 _ w2 HS2.out (by omega)).mono ?_
 rintro e w3 ⟨A3,m3,c3,rfl,ho,hb⟩
 have hz:=Grows.whole hb HZ2.out
 have HZ3:=hid hz
 have HA3:=hid (And.intro (HA2.out.1.up hb) (HA2.out.2.trans (Turns.grow hb)))
 have HO:=hid (And.intro ho HZ2.out.lt)
 have zc0:=hz.cell 0
 have zf0:=hz.free 0
 have zc1:=hz.cell 1
 have zf1:=hz.free 1
 have zc2:=hz.cell 2
 have zf2:=hz.free 2
 have zc3:=hz.cell 3
 have zf3:=hz.free 3
 have zc4:=hz.cell 4
 have zf4:=hz.free 4
 have zc5:=hz.cell 5
 have zf5:=hz.free 5
 have zc6:=hz.cell 6
 have zf6:=hz.free 6
 simp only [Gt] at zc0 zc1 zc2 zc3 zc4 zc5 zc6
 clear ho hb hz
 go_wp2_with (fail)
 obtain ⟨W,hW,hwh,hwt⟩:=Jp HZ3.out (.int .i64 0) (.string ⟨k.1.toArray⟩) (.int .i64 0) (.int .i64 0) (.int .i64 0) (.slice none 0 0) (.slice A3 m3 c3)
 rw [hW]
 have HWB:=hid (And.intro hwt (hwt.below (by have:=HZ3.out.lt;omega)))
 clear hW hwt
 refine bodyPost_ret (results_cell_row rfl _ _ w.heap.size _ _ (0,0) _ rfl hwh Tryz.underlying196 rfl (by kernel_rfl)) rfl ?_
 exact ⟨none,0,0,A3,m3,c3,rfl,⟨World.ownsRow_nil _ _ _ _,rfl,Zg (J8 HO.out.1 HWB.out.1 HO.out.2) HA2.out.2.size⟩,HA3.out.1.under HWB.out.2 hg,HA3.out.2.then HWB.out.2⟩

theorem Zq9 (g:Nat) (s:Src) (w:World) (h:At w g s) (hs:s.1.length≤140737488351232) :
 Calls Tryz.prog 215 #[.pointer (some ⟨g,0,none⟩)] w fun e w'=>∃ LA ln lc BA bn bc,e=.returned (.agg #[.int .i64 0,.string ⟨(Zag s).1.key.toArray⟩,.int .i64 (Zag s).1.id,.int .i64 (Zag s).1.no,.int .i64 (Zag s).1.size,.slice LA ln lc,.slice BA bn bc])∧RcOwn w' w.heap.size LA ln lc BA bn bc (Zag s).1∧At w' g (Zag s).2∧Turns g w w':=by
 have hg:=h.lt
 have h6:=Yz s 6
 have h2:=Yz (numS s 6).2 2
 have H1:=hid (Zbn g s 6 (w.alloc (.cells #[.int .i64 0,.string ⟨#[]⟩,.int .i64 0,.int .i64 0,.int .i64 0,.slice none 0 0,.slice none 0 0] 196)) (h.up (Za _ _)) (by omega) hs)
 have H2:=hid (fun (w1:World) (h:At w1 g (numS s 6).2)=>Zbn g (numS s 6).2 2 w1 h (by omega) (by omega))
 have hr:=fun (w1:World) (h:At w1 g (numS (numS s 6).2 2).2)=>Zjf g (numS (numS s 6).2 2).2 w1 h (by omega)
 have hrl:(restS (numS (numS s 6).2 2).2).1.length≤s.1.length:=Nat.le_trans (Zcd _ _).1 (by omega)
 have HZ:=hid (Whole.made w 196 #[.int .i64 0,.string ⟨#[]⟩,.int .i64 0,.int .i64 0,.int .i64 0,.slice none 0 0,.slice none 0 0])
 have HR:=hid hr
 clear h hr h6 h2
 unfold Zag
 dsimp only
 rw [show ((6:Nat):Int)=6 from rfl] at H1
 rw [show ((2:Nat):Int)=2 from rfl] at H2
 generalize restS (numS (numS s 6).2 2).2=r at *
 generalize numS (numS s 6).2 2=y at *
 generalize numS s 6=x at *
 go_enter Tryz.func215,Tryz.ntmps215
 go_wp2_with (fail)
 refine (H1.out).mono ?_
 rintro e w1 ⟨rfl,ha1,ht1⟩
 have HZ1:=hid (ht1.whole HZ.out (by omega))
 have HA1:=hid (And.intro ha1 (Turns.trans (Turns.grow (Za _ _)) ht1))
 clear ha1 ht1
 go_wp2_with (fail)
 refine (H2.out w1 HA1.out.1).mono ?_
 rintro e w2 ⟨rfl,ha2,ht2⟩
 have HZ2:=hid (ht2.whole HZ1.out (by omega))
 have HA2:=hid (And.intro ha2 (HA1.out.2.trans ht2))
 clear ha2 ht2
 go_wp2_with (fail)
 refine (HR.out w2 HA2.out.1).mono ?_
 rintro e w3 ⟨A3,m3,c3,rfl,hl3,ha3,ht3⟩
 have hlen:=Bytes.len hl3.bytes
 have HS3:=hid (hl3.sl (Nat.le_of_lt ha3.lt))
 have HA3:=hid (And.intro ha3 (HA2.out.2.trans ht3))
 have HZ3:=hid (ht3.whole HZ2.out (by omega))
 clear hl3 ha3 ht3
 go_wp2_with (fail)
 refine (Zif A3 m3 c3 _ w3 HS3.out (by omega)).mono ?_
 rintro e w4 ⟨A4,m4,c4,rfl,ho,hb⟩
 have hz:=Grows.whole hb HZ3.out
 have HZ4:=hid hz
 have HA4:=hid (And.intro (HA3.out.1.up hb) (HA3.out.2.trans (Turns.grow hb)))
 have HO:=hid (And.intro ho HZ3.out.lt)
 have zc0:=hz.cell 0
 have zf0:=hz.free 0
 have zc1:=hz.cell 1
 have zf1:=hz.free 1
 have zc2:=hz.cell 2
 have zf2:=hz.free 2
 have zc3:=hz.cell 3
 have zf3:=hz.free 3
 have zc4:=hz.cell 4
 have zf4:=hz.free 4
 have zc5:=hz.cell 5
 have zf5:=hz.free 5
 have zc6:=hz.cell 6
 have zf6:=hz.free 6
 simp only [Gt] at zc0 zc1 zc2 zc3 zc4 zc5 zc6
 clear ho hb hz
 go_wp2_with (fail)
 obtain ⟨W,hW,hwh,hwt⟩:=Jp HZ4.out (.int .i64 0) (.string ⟨#[]⟩) (.int .i64 x.1) (.int .i64 y.1) (.int .i64 0) (.slice none 0 0) (.slice A4 m4 c4)
 rw [hW]
 have HWB:=hid (And.intro hwt (hwt.below (by have:=HZ4.out.lt;omega)))
 clear hW hwt
 refine bodyPost_ret (results_cell_row rfl _ _ w.heap.size _ _ (0,0) _ rfl hwh Tryz.underlying196 rfl (by kernel_rfl)) rfl ?_
 exact ⟨none,0,0,A4,m4,c4,rfl,⟨World.ownsRow_nil _ _ _ _,rfl,Zg (J8 HO.out.1 HWB.out.1 HO.out.2) HA3.out.2.size⟩,HA4.out.1.under HWB.out.2 hg,HA4.out.2.then HWB.out.2⟩
end Go.Proofs.YtkelafkbmnjpeaaGreat

set_option maxHeartbeats 8000000
set_option maxRecDepth 100000
namespace Go.Proofs.YtkelafkbmnjpeaaGreat
open Go.Lib (hid)
open Go.RowKit

theorem infoLoc:(Tryz.prog.info? 140).map (fun i=>(i.zero,i.size,i.bytes))=some (some (.agg #[.int .i64 0,.int .i64 0,.int .i64 0]),3,24):=by kernel_rfl
theorem Zxf {w:World} {g ty:Nat} {l:Lc} (hw:Whole w g ty #[.int .i64 l.1,.int .i64 l.2.1,.int .i64 l.2.2]):∀ j u,(lcV l)[j]?=some u→w.cell? ((⟨g,0,none⟩:Addr).add j)=some u:=by
 intro j u hj
 rw [show (⟨g,0,none⟩:Addr).add j=⟨g,j,none⟩ by unfold Addr.add;split <;> simp_all,hw.cell j]
 simpa [lcV] using hj
theorem Zwp (l:Lc):∀ u∈lcV l,u.oneCell'=true:=by
 intro u hu
 simp only [lcV,List.mem_cons,List.not_mem_nil,or_false] at hu
 rcases hu with rfl | rfl | rfl <;> rfl
theorem Zl9 {w:World} {base:Nat} {e:TypeId} {size:Nat} {v:Value} {n:Nat} {xs:List Value} (h:w.ownsRow base e size v n xs):∃ A c,v=.slice A n c:=by
 rcases h.2 with ⟨rfl,rfl⟩ | ⟨g,cap,_,rfl,_⟩
 ·exact ⟨none,0,rfl⟩
 ·exact ⟨_,cap,rfl⟩
section
variable {ops:Array Oper} {rest:List Oper} {o:Oper} {a:Act} {w:World} {Q:Exit→Act→World→Prop}
theorem Zgt (hgd:o.guard=none) (s x:Operand) (ho:o.op=.call { callee:=.builtin .append,args:=#[s,x],argTypes:=#[36,36] })
 {base:Nat} {LA:Option Addr} {n lc:Nat} {ts:List Lc} (hs:a.eval s=.slice LA n lc) (hown:w.ownsRow base 140 3 (.slice LA n lc) n (lcCells ts))
 {g ty:Nat} (t:Lc) (hx:a.eval x=.slice (some ⟨g,0,none⟩) 1 1) (hw:Whole w g ty #[.int .i64 t.1,.int .i64 t.2.1,.int .i64 t.2.2]) (hn:n≤1000000) (hbase:base≤w.heap.size)
 (hk:∀ A' c' w',w'.ownsRow base 140 3 (.slice A' (n+1) c') (n+1) (lcCells (ts++[t]))→Below base w w'→wpList Tryz.prog ops Q rest (a.put o.dst (.slice A' (n+1) c')) w'):wpList Tryz.prog ops Q (o :: rest) a w:=by
 obtain ⟨i0,hi,hz0,hz1,hz2⟩:=info_parts infoLoc
 refine wpList_append_own w hgd s x 36 ho base 140 i0 _ 3 24 Tryz.underlying36 hi hz0 hz1 hz2 rfl (by decide) (.slice LA n lc) n (lcCells ts) hs hown ⟨g,0,none⟩ 1 1 (lcV t) hx rfl (Zxf hw) (Zwp t) (by unfold maxLen;omega) (by omega) hbase fun v' w' h1 h2 _=>?_
 obtain ⟨A',c',rfl⟩:=Zl9 h1
 rw [show lcCells ts++lcV t=lcCells (ts++[t]) by rw [lcCells_append];simp [lcCells]] at h1
 exact hk A' c' w' h1 ((Below.refl _ w).grown h2 hbase fun k hk=>(hown.lt k hk).1)
end

theorem Zuf (s:Src):(numS s 2).1 < 65536:=by
 have h:=Zaf (takeS s 2).1
 have hl:(takeS s 2).1.length≤2:=by
  unfold takeS
  split
  ·simp
  ·simp;omega
 unfold numS
 dsimp only
 obtain e | e | e:(takeS s 2).1.length=0∨(takeS s 2).1.length=1∨(takeS s 2).1.length=2:=by omega
 all_goals
  rw [e] at h
  simp at h
  omega
theorem Zo2 {k:Nat} {s:Src} {acc:List Lc} (h:(locS s).2.2=true):locsL (k+1) s acc=([],(locS s).2):=by
 rw [locsL,if_pos h]
theorem Zug {k:Nat} {s:Src} {acc:List Lc} (h:(locS s).2.2=false):locsL (k+1) s acc=locsL k (locS s).2 (acc++[(locS s).1]):=by
 rw [locsL,if_neg (by rw [h];simp)]
theorem Zuh (s:Src):(locS s).2.1.length≤s.1.length:=Nat.le_trans (Yz _ _) (Nat.le_trans (Yz _ _) (Yz _ _))

theorem Zre (g:Nat) (s:Src) (w:World) (h:At w g s) (hs:s.1.length≤140737488351232) :
 Calls Tryz.prog 280 #[.pointer (some ⟨g,0,none⟩)] w fun e w'=>∃ A n c,e=.returned (.slice A n c)∧w'.ownsRow w.heap.size 140 3 (.slice A n c) n (lcCells (locsS s).1)∧(locsS s).1.length=n∧At w' g (locsS s).2∧Turns g w w':=by
 have hg:=h.lt
 have h1:=Zbn g s 2 w h (by omega) hs
 have hlt:=Zuf s
 have hsl:=Yz s 2
 obtain ⟨N,hN⟩:=Znq s 2
 unfold locsS
 rw [show ((2:Nat):Int)=2 from rfl] at h1
 rw [hN] at h1 hlt
 rw [hN,Int.toNat_natCast]
 generalize (numS s 2).2=s1 at *
 have H1:=hid h1
 have hN2:N≤65536:=by omega
 clear h1 h hN hlt
 obtain ⟨R,hR⟩:∃ R,locsL N s1 []=R:=⟨_,rfl⟩
 rw [hR]
 have HR:=hid hR
 clear hR
 go_enter Tryz.func280,Tryz.ntmps280
 go_wp2_with (fail)
 refine H1.out.mono ?_
 rintro e w1 ⟨rfl,ha,ht⟩
 have HA:=hid (And.intro ha ht)
 clear ha ht
 go_wp2_with (fail)
 go_loopw [3,7] (fun a i wr=>∃ (A:Option Addr) (c k n:Nat) (s':Src) (acc:List Lc),k≤N∧n≤k∧i=.int .i64 (k:Nat)∧a=.slice A n c∧Hid (acc.length=n∧locsL (N - k) s' acc=R)∧Hid (At wr g s'∧s'.1.length≤s.1.length)∧Hid (wr.ownsRow w.heap.size 140 3 (.slice A n c) n (lcCells acc))∧Hid (Turns g w wr)) (fun _ i _=>N - (intOf i).toNat)
 case atStart=>exact ⟨none,0,0,0,s1,[],by omega,by omega,rfl,rfl,hid ⟨rfl,by simpa using HR.out⟩,hid ⟨HA.out.1,hsl⟩,hid (World.ownsRow_nil _ _ _ _),hid HA.out.2⟩
 case round =>
  obtain ⟨A,c,k,n,s',acc,hk,hnk,rfl,rfl,HE,HS,HO,HT⟩:=hrel
  by_cases hlt:k < N
  ·have hq:N - k=(N - (k+1))+1:=by omega
   have he0:=HE.out.2
   rw [hq] at he0
   have he:((locS s').2.2=true→([],(locS s').2)=R)∧((locS s').2.2=false→locsL (N - (k+1)) (locS s').2 (acc++[(locS s').1])=R):=⟨fun h=>(Zo2 h).symm.trans he0,fun h=>(Zug h).symm.trans he0⟩
   clear he0
   have hle:=Zuh s'
   have hl0:=HS.out.2
   have l1:=Yz s' 4
   have l2:=Yz (numS s' 4).2 4
   have C1:=hid (Zbn g s' 4 wr HS.out.1 (by omega) (by omega))
   have C2:=hid (fun (w2:World) (h:At w2 g (numS s' 4).2)=>Zbn g (numS s' 4).2 4 w2 h (by omega) (by omega))
   have C3:=hid (fun (w2:World) (h:At w2 g (numS (numS s' 4).2 4).2)=>Zbn g (numS (numS s' 4).2 4).2 2 w2 h (by omega) (by omega))
   rw [show ((4:Nat):Int)=4 from rfl] at C1 C2
   rw [show ((2:Nat):Int)=2 from rfl] at C3
   unfold locS at he hle
   dsimp only at he hle
   generalize numS (numS (numS s' 4).2 4).2 2=z at *
   generalize numS (numS s' 4).2 4=y at *
   generalize numS s' 4=x at *
   obtain ⟨z0,zs,zb⟩:=z
   dsimp only at he hle C3
   have HE2:=hid he
   have k0:(k:Int) < (N:Int):=by omega
   have HLE:=hid hle
   clear he hle hq l1 l2 hl0
   go_wp2_with (fail)
   refine C1.out.mono ?_
   rintro e w2 ⟨rfl,ha2,ht2⟩
   have HA2:=hid (And.intro ha2 ht2)
   clear ha2 ht2
   go_wp2_with (fail)
   refine (C2.out w2 HA2.out.1).mono ?_
   rintro e w3 ⟨rfl,ha3,ht3⟩
   have HA3:=hid (And.intro ha3 (HA2.out.2.trans ht3))
   clear ha3 ht3
   go_wp2_with (fail)
   refine (C3.out w3 HA3.out.1).mono ?_
   rintro e w4 ⟨rfl,ha4,ht4⟩
   have HA4:=hid (And.intro ha4 (HA3.out.2.trans ht4))
   have hlt4:=ha4.lt
   obtain ⟨A4,n4,c4,hw4,hl4⟩:=ha4
   have d1:=hw4.cell 1
   simp only [Gt] at d1
   have hsz4:w.heap.size≤w4.heap.size:=Nat.le_trans HT.out.size HA4.out.2.size
   have HO4:=hid (J8 HO.out HA4.out.2 hg)
   clear hw4 hl4 ht4
   cases zb with
   | true =>
     go_wp2_with (fail)
     go_ret
     have he:=HE2.out.1 (by simp)
     subst he
     exact ⟨none,0,0,rfl,World.ownsRow_nil _ _ _ _,rfl,HA4.out.1.up (Za _ _),(HT.out.trans HA4.out.2).trans (Turns.grow (Za _ _))⟩
   | false =>
     have hx5:=Whole.made w4 140 #[.int .i64 x.1,.int .i64 y.1,.int .i64 z0]
     have hx6:=Whole.made (w4.alloc (.cells #[.int .i64 x.1,.int .i64 y.1,.int .i64 z0] 140)) 140 #[.int .i64 x.1,.int .i64 y.1,.int .i64 z0]
     rw [World.size_alloc] at hx6
     have HX:=hid hx6
     have HG6:=hid (Grows.trans (Za w4 (.cells #[.int .i64 x.1,.int .i64 y.1,.int .i64 z0] 140)) (Za _ (.cells #[.int .i64 x.1,.int .i64 y.1,.int .i64 z0] 140)))
     clear hx5 hx6
     go_wp2_with (at_builtin
                  refine Zgt rfl (.tmp 20) (.tmp 22) rfl (base:=w.heap.size) rfl (Zd HO4.out HG6.out) (x.1,y.1,z0) rfl HX.out (by omega) (Nat.le_trans hsz4 HG6.out.size) ?_
                  intro A7 c7 w7 ho7 hb7
                  have HO7:=hid ho7
                  have HB7:=hid hb7
                  clear ho7 hb7)
     go_roundw
     case rel =>
      have he:=HE2.out.2 (by simp)
      refine ⟨A7,c7,k+1,n+1,(zs,false),acc++[(x.1,y.1,z0)],by omega,by omega,by go_num,rfl,hid ⟨by rw [List.length_append,HE.out.1];rfl,he⟩,hid ⟨?_,Nat.le_trans HLE.out HS.out.2⟩,HO7,hid ?_⟩
      ·exact (HA4.out.1.up HG6.out).under HB7.out hg
      ·exact ((HT.out.trans HA4.out.2).trans (Turns.grow HG6.out)).then HB7.out
     case measure=>simp [intOf];omega
  ·obtain rfl:k=N:=by omega
   have he:=HE.out.2
   rw [Nat.sub_self,locsL] at he
   have hn:=HE.out.1
   subst he hn
   go_wp2_with (fail)
   go_ret
   exact ⟨A,acc.length,c,rfl,HO.out,rfl,HS.out.1,HT.out⟩
end Go.Proofs.YtkelafkbmnjpeaaGreat

set_option maxHeartbeats 4000000
set_option maxRecDepth 100000
namespace Go.Proofs.YtkelafkbmnjpeaaGreat
open Go.Lib (hid)
open Go.RowKit

theorem Zue (g:Nat) (s:Src) (w:World) (h:At w g s) (hs:s.1.length≤140737488351232) :
 Calls Tryz.prog 218 #[.pointer (some ⟨g,0,none⟩)] w fun e w'=>∃ LA ln lc BA bn bc,e=.returned (.agg #[.int .i64 0,.string ⟨(rootS s).1.key.toArray⟩,.int .i64 (rootS s).1.id,.int .i64 (rootS s).1.no,.int .i64 (rootS s).1.size,.slice LA ln lc,.slice BA bn bc])∧RcOwn w' w.heap.size LA ln lc BA bn bc (rootS s).1∧At w' g (rootS s).2∧Turns g w w':=by
 have hg:=h.lt
 have hk:=Nat.le_trans (Zcd (numS s 1).2 (numS s 1).1).2 (Yz s 1)
 have hks:(keyS s).2.1.length≤s.1.length:=hk
 have h6:=Yz (keyS s).2 6
 have h3:=Yz (numS (keyS s).2 6).2 3
 have H1:=hid (Znr g s (w.alloc (.cells #[.int .i64 0,.string ⟨#[]⟩,.int .i64 0,.int .i64 0,.int .i64 0,.slice none 0 0,.slice none 0 0] 196)) (h.up (Za _ _)) hs)
 have H2:=hid (fun (w1:World) (h:At w1 g (keyS s).2)=>Zbn g (keyS s).2 6 w1 h (by omega) (by omega))
 have H3:=hid (fun (w1:World) (h:At w1 g (numS (keyS s).2 6).2)=>Zbn g (numS (keyS s).2 6).2 3 w1 h (by omega) (by omega))
 have H4:=hid (fun (w1:World) (h:At w1 g (numS (numS (keyS s).2 6).2 3).2)=>Zre g (numS (numS (keyS s).2 6).2 3).2 w1 h (by omega))
 have HZ:=hid (Whole.made w 196 #[.int .i64 0,.string ⟨#[]⟩,.int .i64 0,.int .i64 0,.int .i64 0,.slice none 0 0,.slice none 0 0])
 clear h h6 h3 hk hks
 unfold rootS
 dsimp only
 rw [show ((6:Nat):Int)=6 from rfl] at H2
 rw [show ((3:Nat):Int)=3 from rfl] at H3
 generalize locsS (numS (numS (keyS s).2 6).2 3).2=r at *
 generalize numS (numS (keyS s).2 6).2 3=y at *
 generalize numS (keyS s).2 6=x at *
 generalize keyS s=k at *
 go_enter Tryz.func218,Tryz.ntmps218
 go_wp2_with (fail)
 refine (H1.out).mono ?_
 rintro e w1 ⟨rfl,ha1,ht1⟩
 have HZ1:=hid (ht1.whole HZ.out (by omega))
 have HA1:=hid (And.intro ha1 (Turns.trans (Turns.grow (Za _ _)) ht1))
 clear ha1 ht1
 go_wp2_with (fail)
 refine (H2.out w1 HA1.out.1).mono ?_
 rintro e w2 ⟨rfl,ha2,ht2⟩
 have HZ2:=hid (ht2.whole HZ1.out (by omega))
 have HA2:=hid (And.intro ha2 (HA1.out.2.trans ht2))
 clear ha2 ht2
 go_wp2_with (fail)
 refine (H3.out w2 HA2.out.1).mono ?_
 rintro e w3 ⟨rfl,ha3,ht3⟩
 have HZ3:=hid (ht3.whole HZ2.out (by omega))
 have HA3:=hid (And.intro ha3 (HA2.out.2.trans ht3))
 clear ha3 ht3
 go_wp2_with (fail)
 refine (H4.out w3 HA3.out.1).mono ?_
 rintro e w4 ⟨A4,m4,c4,rfl,ho4,hn4,ha4,ht4⟩
 have hz:=ht4.whole HZ3.out (by omega)
 have HZ4:=hid hz
 have HA4:=hid (And.intro ha4 (HA3.out.2.trans ht4))
 have HO:=hid (And.intro ho4 (And.intro HZ3.out.lt hn4))
 have zc0:=hz.cell 0
 have zf0:=hz.free 0
 have zc1:=hz.cell 1
 have zf1:=hz.free 1
 have zc2:=hz.cell 2
 have zf2:=hz.free 2
 have zc3:=hz.cell 3
 have zf3:=hz.free 3
 have zc4:=hz.cell 4
 have zf4:=hz.free 4
 have zc5:=hz.cell 5
 have zf5:=hz.free 5
 have zc6:=hz.cell 6
 have zf6:=hz.free 6
 simp only [Gt] at zc0 zc1 zc2 zc3 zc4 zc5 zc6
 clear ho4 hn4 ha4 ht4 hz
 go_wp2_with (fail)
 obtain ⟨W,hW,hwh,hwt⟩:=Jp HZ4.out (.int .i64 0) (.string ⟨k.1.toArray⟩) (.int .i64 x.1) (.int .i64 0) (.int .i64 y.1) (.slice A4 m4 c4) (.slice none 0 0)
 rw [hW]
 have HWB:=hid (And.intro hwt (hwt.below (by have:=HZ4.out.lt;omega)))
 clear hW hwt
 refine bodyPost_ret (results_cell_row rfl _ _ w.heap.size _ _ (0,0) _ rfl hwh Tryz.underlying196 rfl (by kernel_rfl)) rfl ?_
 exact ⟨A4,m4,c4,none,0,0,rfl,⟨Zg (J8 HO.out.1 HWB.out.1 HO.out.2.1) HA3.out.2.size,HO.out.2.2,World.ownsRow_nil _ _ _ _⟩,HA4.out.1.under HWB.out.2 hg,HA4.out.2.then HWB.out.2⟩
end Go.Proofs.YtkelafkbmnjpeaaGreat

namespace Go.Proofs.YtkelafkbmnjpeaaGreat
open Go.RowKit

theorem Zuj (s:ByteArray):s.data.size=s.size:=rfl
theorem Zd1 (s:ByteArray):s.toList=[]↔s.size < 1:=by
 rw [ByteArray.toList_eq,Array.toList_eq_nil_iff,←Array.size_eq_zero_iff,Zuj]
 omega

theorem Zxa (a lo hi:Int) (w:World) :
 Calls Tryz.prog 267 #[.int .i64 a,.int .i64 lo,.int .i64 hi] w fun e w'=>e=.returned (.bool (decide (lo≤a∧a≤hi)))∧Below w.heap.size w w':=by
 go_enter Tryz.func267,Tryz.ntmps267
 go_wp2
 all_goals
  go_ret
  refine ⟨Zy (by rw [Bool.eq_iff_iff];simp [Zd1,-Nat.lt_one_iff] at *;omega),?_⟩
  first | exact Below.refl _ _ | exact Za _ _ | exact Grows.trans (Za _ _) (Za _ _)

theorem Zwq (s:ByteArray) (w:World) :
 Calls Tryz.prog 206 #[.string s] w fun e w'=>e=.returned (.bool (decide (1≤s.size∧s.size≤64)))∧Below w.heap.size w w':=by
 go_enter Tryz.func206,Tryz.ntmps206
 go_wp2
 all_goals
  go_ret
  refine ⟨Zy (by rw [Bool.eq_iff_iff];simp [Zd1,-Nat.lt_one_iff] at *;omega),?_⟩
  first | exact Below.refl _ _ | exact Za _ _ | exact Grows.trans (Za _ _) (Za _ _)

theorem Zjp (k:Int) (s:ByteArray) (id no size:Int) (LA:Option Addr) (ln lc:Nat) (BA:Option Addr) (bn bc:Nat) (w:World) :
 Calls Tryz.prog 222 #[.agg #[.int .i64 k,.string s,.int .i64 id,.int .i64 no,.int .i64 size,.slice LA ln lc,.slice BA bn bc]] w fun e w'=>e=.returned (.bool (decide ((id=0∧no=0∧size=0∧ln=0)∧(1≤s.size∧s.size≤64)∧bn=0)))∧Below w.heap.size w w':=by
 go_enter Tryz.func222,Tryz.ntmps222
 go_wp2
 all_goals
  go_ret
  refine ⟨Zy (by rw [Bool.eq_iff_iff];simp [Zd1,-Nat.lt_one_iff] at *;omega),?_⟩
  first | exact Below.refl _ _ | exact Za _ _ | exact Grows.trans (Za _ _) (Za _ _)

theorem Zgx (k:Int) (s:ByteArray) (id no size:Int) (LA:Option Addr) (ln lc:Nat) (BA:Option Addr) (bn bc:Nat) (w:World) :
 Calls Tryz.prog 219 #[.agg #[.int .i64 k,.string s,.int .i64 id,.int .i64 no,.int .i64 size,.slice LA ln lc,.slice BA bn bc]] w fun e w'=>e=.returned (.bool (decide ((id=0∧no=0∧size=0∧ln=0)∧(1≤s.size∧s.size≤64)∧bn≤4096)))∧Below w.heap.size w w':=by
 go_enter Tryz.func219,Tryz.ntmps219
 go_wp2
 all_goals
  go_ret
  refine ⟨Zy (by rw [Bool.eq_iff_iff];simp [Zd1,-Nat.lt_one_iff] at *;omega),?_⟩
  first | exact Below.refl _ _ | exact Za _ _ | exact Grows.trans (Za _ _) (Za _ _)

theorem Zhu (k:Int) (s:ByteArray) (id no size:Int) (LA:Option Addr) (ln lc:Nat) (BA:Option Addr) (bn bc:Nat) (w:World) :
 Calls Tryz.prog 213 #[.agg #[.int .i64 k,.string s,.int .i64 id,.int .i64 no,.int .i64 size,.slice LA ln lc,.slice BA bn bc]] w fun e w'=>e=.returned (.bool (decide (s.size < 1∧size=0∧ln=0∧(0≤id∧id≤1099511627776)∧(0≤no∧no≤511)∧1≤bn∧bn≤4096)))∧Below w.heap.size w w':=by
 go_enter Tryz.func213,Tryz.ntmps213
 go_wp2
 all_goals
  go_ret
  refine ⟨Zy (by rw [Bool.eq_iff_iff];simp [Zd1,-Nat.lt_one_iff] at *;omega),?_⟩
  first | exact Below.refl _ _ | exact Za _ _ | exact Grows.trans (Za _ _) (Za _ _)

end Go.Proofs.YtkelafkbmnjpeaaGreat
