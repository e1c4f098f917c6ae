/-
  Texts that the statements lean on, one behind the other.
-/
import Derived.Test.YtkelafkbmnjpeaaGreatMG12
import Derived.Test.YtkelafkbmnjpeaaGreatMG14
set_option linter.unusedVariables false
set_option linter.unusedSimpArgs false
set_option maxHeartbeats 4000000
set_option maxRecDepth 100000
namespace Go.Proofs.YtkelafkbmnjpeaaGreat
open Go.Lib (hid)
open Go.RowKit

theorem At.made {w0 w1:World} {o:Obj} {X:Option Addr} {n c:Nat} {bs:List UInt8} (hl:Low w0 w0.heap.size X n c bs) (hg:Grows w0 w1) :
 At ((w1.alloc o).alloc (.cells #[.slice X n c,.bool false] 251)) (w1.heap.size+1) (bs,false):=by
 have hG:=Grows.trans hg (Grows.trans (Zb w1 o) (Zb _ (.cells #[.slice X n c,.bool false] 251)))
 have hw:=Whole.made (w1.alloc o) 251 #[.slice X n c,.bool false]
 rw [World.size_alloc] at hw
 exact ⟨X,n,c,hw,(hl.bytes.below hG).wider (Nat.le_trans hg.size (Nat.le_succ _)),hl.cap,hl.bare⟩

theorem Zn {fn:Func} {p q:Tmp} (h:fn.results=#[.cell p 39,.tmp q]) (tmps:Array Value) (w:World) (g:Nat) (t:TypeId) (u0 u1 u2 u3 u4 u5 u6:Value) (b:Value)
 (hp:tmps.getD p undef=.pointer (some ⟨g,0,none⟩)) (hq:tmps.getD q undef=b) (hg:Whole w g t #[u0,u1,u2,u3,u4,u5,u6]) :
 (results fn tmps).run Tryz.prog w=.ok (.tuple #[.agg #[u0,u1,u2,u3,u4,u5,u6],b]) w:=by
 have hp':tmps[p]?.getD undef=.pointer (some ⟨g,0,none⟩):=by simpa using hp
 have hq':tmps[q]?.getD undef=b:=by simpa using hq
 have hi:(Tryz.prog.info? 39).map (·.size)=some 7:=by kernel_rfl
 simp [results,h,hp',hq',asAddr,run_loadVar_row w g t 39 #[u0,u1,u2,u3,u4,u5,u6] (0,0) _ hg Tryz.underlying39 rfl hi]

theorem Zmd (ad:Addr) (n c:Nat) (b0:UInt8) (bs:List UInt8) (w:World) (hs:Sl w (some ad) n c (b0 :: bs)) (hn:n≤140737488351232)
 (f1 f2 f3:FuncId) (hf:wayOf (b0.toNat:Int)=wayV f1 f2 f3) (hk:decide ((b0.toNat:Int)=1∨(b0.toNat:Int)=2∨(b0.toNat:Int)=3∨(b0.toNat:Int)=4)=true)
 (hc1:∀ a w,(callFunc f1 a).run Tryz.prog w=.ok (.enter f1 a) w) (hc3:∀ a w,(callFunc f3 a).run Tryz.prog w=.ok (.enter f3 a) w) (p:Rc×Src) (q ok:Bool) (x:Rc)
 (hp:∀ W g,At W g (bs,false)→Calls Tryz.prog f3 #[.pointer (some ⟨g,0,none⟩)] W fun e w'=>∃ LA ln lc BA bn bc,e=.returned (.agg #[.int .i64 0,.string ⟨p.1.key.toArray⟩,.int .i64 p.1.id,.int .i64 p.1.no,.int .i64 p.1.size,.slice LA ln lc,.slice BA bn bc])∧RcOwn w' W.heap.size LA ln lc BA bn bc p.1∧At w' g p.2∧Turns g W w')
 (hq:∀ W LA ln lc BA bn bc,RcIn W LA ln lc BA bn bc p.1→Calls Tryz.prog f1 #[.agg #[.int .i64 (b0.toNat:Int),.string ⟨p.1.key.toArray⟩,.int .i64 p.1.id,.int .i64 p.1.no,.int .i64 p.1.size,.slice LA ln lc,.slice BA bn bc]] W fun e w2=>e=.returned (.bool q)∧Below W.heap.size W w2)
 (hok:(decide (p.2.2=false∧p.2.1=[])&&q)=ok) (hx:x=if ok then { p.1 with kind:=(b0.toNat:Int) } else Rc.none) :
 Calls Tryz.prog 148 #[.slice (some ad) n c] w fun e w'=>∃ LA ln lc BA bn bc,e=.returned (.tuple #[.agg #[.int .i64 x.kind,.string ⟨x.key.toArray⟩,.int .i64 x.id,.int .i64 x.no,.int .i64 x.size,.slice LA ln lc,.slice BA bn bc],.bool ok])∧RcOwn w' w.heap.size LA ln lc BA bn bc x∧Below w.heap.size w w':=by
 have hlen:=hs.len
 simp only [List.length_cons] at hlen
 have hlook:∀ (w1:World) (g:Nat),Zaf w1 g→(Instr.lookup 194 (.map (some g)) (.int .i64 (b0.toNat:Int)) true).run Tryz.prog w1=.ok (.tuple #[.agg #[.func (.func f1) #[] #[],.func (.func f2) #[] #[],.func (.func f3) #[] #[]],.bool true]) w1:=fun w1 g h=>by
  have:=Zdq h (b0.toNat:Int)
  rw [hf,hk] at this
  exact this
 have HLK:=hid hlook
 have hst:=fun a f m w=>Zh6 a f m w
 have HP:=hid hp
 have HQ:=hid hq
 have HOK:=hid (And.intro hok hx)
 have hb0:=b0.toNat_lt
 obtain ⟨_,e0,hab,hcell⟩:=hs.bytes.spot (k:=0) (by omega)
 injection e0 with e0
 subst e0
 simp only [List.getD_cons_zero,Addr.add_zero'] at hcell
 have hlow:Low w w.heap.size (if c=1 then some ad else some (ad.add 1)) (n - 1) (c - 1) bs:=by
  have:=Low.behind (w:=w) (g:=w.heap.size) ⟨hs.bytes,hs.cap,hs.bare⟩ (k:=1) (by omega)
  simpa using this
 have hc0:(1:Int)≤(c:Int):=by have:=hs.cap;omega
 have hn0:(1:Int)≤(n:Int):=by omega
 have HL:=hid hlow
 clear hlook hp hq hok hx hf hk hs hlow
 have eA:ad.add 1=⟨ad.block,ad.off+1,none⟩:=Addr.add_succ' ad 0
 have HOKQ:=HOK
 generalize hu:decide (p.2.2=false∧p.2.1=[])=u at *
 have HU:=hid hu
 clear hu
 by_cases h1:c=1
 ·have hl:=HL.out
  rw [if_pos h1] at hl
  have HLL:=hid hl
  clear hl HL
  subst h1
  go_enter Tryz.func148,Tryz.ntmps148
  go_wp2_with (fail)
  refine (Za6 _).mono ?_
  rintro e w1 ⟨rfl,hw1,hb1⟩
  have hl0:=(HLK.out w1 _ hw1)
  have HW1:=hid (show Grows (w.alloc (.cells #[.int .i64 0,.string ⟨#[]⟩,.int .i64 0,.int .i64 0,.int .i64 0,.slice none 0 0,.slice none 0 0] 39)) w1 from hb1)
  have HZ1:=hid (HW1.out.whole (Whole.made w 39 #[.int .i64 0,.string ⟨#[]⟩,.int .i64 0,.int .i64 0,.int .i64 0,.slice none 0 0,.slice none 0 0]))
  simp only [World.size_alloc] at hl0
  clear hw1 hb1
  go_wp2_with (fail)
  have HG1:Hid (Grows w w1):=hid (Grows.trans (Zb w _) HW1.out)
  refine (HP.out _ _ (At.made HLL.out HG1.out)).mono ?_
  rintro e w3 ⟨LA,ln,lc,BA,bn,bc,rfl,hin,ha,ht⟩
  have hgo:=Grows.trans (Zb w1 (.cells #[.func (.func f1) #[] #[],.func (.func f2) #[] #[],.func (.func f3) #[] #[]] 192)) (Zb _ (.cells #[.slice (some ad) (n - 1) (1 - 1),.bool false] 251))
  have hz:=ht.whole (hgo.whole HZ1.out) (by have:=HZ1.out.lt;omega)
  have hv:=ht.whole ((Zb _ _).whole (Whole.made w1 192 #[.func (.func f1) #[] #[],.func (.func f2) #[] #[],.func (.func f3) #[] #[]])) (by omega)
  have HB3:=hid (show Below w.heap.size w w3 from Below.trans (Grows.trans HG1.out hgo) (Below.mono (ht.below (by simp)) (Nat.le_trans HG1.out.size (Nat.le_succ _))))
  have HZ3:=hid hz
  have HS3:=hid (ha.up (Zb w3 (.cells #[.int .i64 (b0.toNat:Int),.string ⟨p.1.key.toArray⟩,.int .i64 p.1.id,.int .i64 p.1.no,.int .i64 p.1.size,.slice LA ln lc,.slice BA bn bc] 196)))
  have HI3:=hid (hin.from (show w.heap.size+1≤_ by simp only [World.size_alloc];have:=HZ1.out.lt;omega))
  have HLT:=hid (show w.heap.size < w1.heap.size from HZ1.out.lt)
  have v0:=hv.cell 0
  have v1:=hv.cell 1
  have v2:=hv.cell 2
  simp only [Gt] at v0 v1 v2
  have hl3:=hv.lt
  clear hz hv hin ha ht hgo
  go_wp2_with (fail)
  refine (Zgu (w1.heap.size+1) p.2 _ HS3.out).mono ?_
  rintro e w4 ⟨rfl,rfl⟩
  rw [HU.out]
  obtain ⟨V,hV⟩:∃ V,w3.alloc (.cells #[.int .i64 (b0.toNat:Int),.string ⟨p.1.key.toArray⟩,.int .i64 p.1.id,.int .i64 p.1.no,.int .i64 p.1.size,.slice LA ln lc,.slice BA bn bc] 196)=V:=⟨_,rfl⟩
  have hgV:Grows w3 V:=hV ▸ Zb _ _
  have hrV:Whole V w3.heap.size 196 #[.int .i64 (b0.toNat:Int),.string ⟨p.1.key.toArray⟩,.int .i64 p.1.id,.int .i64 p.1.no,.int .i64 p.1.size,.slice LA ln lc,.slice BA bn bc]:=by rw [←hV];exact Whole.made _ _ _
  have HRV:=hid hrV
  have HZV:=hid (hgV.whole HZ3.out)
  have HIV:=hid (HI3.out.grow hgV)
  have HBV:=hid (Below.trans HB3.out (Below.mono hgV HB3.out.size))
  have v0:=Zh4 hgV v0
  rw [hV]
  clear hgV hrV hV v1 v2
  cases u with
  | false =>
    have hz:=HZV.out
    have zc0:=hz.cell 0
    have zf0:=hz.free 0
    have zc1:=hz.cell 1
    have zf1:=hz.free 1
    have zc2:=hz.cell 2
    have zf2:=hz.free 2
    have zc3:=hz.cell 3
    have zf3:=hz.free 3
    have zc4:=hz.cell 4
    have zf4:=hz.free 4
    have zc5:=hz.cell 5
    have zf5:=hz.free 5
    have zc6:=hz.cell 6
    have zf6:=hz.free 6
    simp only [Gt] at zc0 zc1 zc2 zc3 zc4 zc5 zc6
    clear hz
    go_wp2_with (fail)
    obtain ⟨W,hW,hwh,hwt⟩:=Y6 HZV.out (.int .i64 0) (.string ⟨#[]⟩) (.int .i64 0) (.int .i64 0) (.int .i64 0) (.slice none 0 0) (.slice none 0 0)
    rw [hW]
    have hbW:=hwt.below (by have:=HZV.out.lt;omega)
    clear hW
    have hx:=HOK.out.2
    have ho:=HOK.out.1
    simp only [Bool.and_true,Bool.and_false,Bool.true_and,Bool.false_and] at ho
    subst ho
    simp only [if_true,Bool.false_eq_true,if_false] at hx
    subst hx
    refine bodyPost_ret (Zn rfl _ _ w.heap.size _ _ _ _ _ _ _ _ (.bool false) rfl rfl hwh) rfl ?_
    exact ⟨none,0,0,none,0,0,rfl,RcOwn.nil _ _ _ _ _ _ _,Below.trans HBV.out hbW⟩
  | true =>
    have hr:=HRV.out
    have rc0:=hr.cell 0
    have rf0:=hr.free 0
    have rc1:=hr.cell 1
    have rf1:=hr.free 1
    have rc2:=hr.cell 2
    have rf2:=hr.free 2
    have rc3:=hr.cell 3
    have rf3:=hr.free 3
    have rc4:=hr.cell 4
    have rf4:=hr.free 4
    have rc5:=hr.cell 5
    have rf5:=hr.free 5
    have rc6:=hr.cell 6
    have rf6:=hr.free 6
    simp only [Gt] at rc0 rc1 rc2 rc3 rc4 rc5 rc6
    clear hr
    go_wp2_with (fail)
    refine (HQ.out V LA ln lc BA bn bc HIV.out.inn).mono ?_
    rintro e w5 ⟨rfl,hb5⟩
    have hz:=Grows.whole hb5 HZV.out
    have zc0:=hz.cell 0
    have zf0:=hz.free 0
    have zc1:=hz.cell 1
    have zf1:=hz.free 1
    have zc2:=hz.cell 2
    have zf2:=hz.free 2
    have zc3:=hz.cell 3
    have zf3:=hz.free 3
    have zc4:=hz.cell 4
    have zf4:=hz.free 4
    have zc5:=hz.cell 5
    have zf5:=hz.free 5
    have zc6:=hz.cell 6
    have zf6:=hz.free 6
    simp only [Gt] at zc0 zc1 zc2 zc3 zc4 zc5 zc6
    have HZ5:=hid hz
    have hr:=Grows.whole hb5 HRV.out
    have rc0:=hr.cell 0
    have rf0:=hr.free 0
    have rc1:=hr.cell 1
    have rf1:=hr.free 1
    have rc2:=hr.cell 2
    have rf2:=hr.free 2
    have rc3:=hr.cell 3
    have rf3:=hr.free 3
    have rc4:=hr.cell 4
    have rf4:=hr.free 4
    have rc5:=hr.cell 5
    have rf5:=hr.free 5
    have rc6:=hr.cell 6
    have rf6:=hr.free 6
    simp only [Gt] at rc0 rc1 rc2 rc3 rc4 rc5 rc6
    have HI5:=hid (HIV.out.grow hb5)
    have HB5:=hid (Below.trans HBV.out (Below.mono hb5 HBV.out.size))
    clear hz hr hb5
    cases q with
    | false =>
      go_wp2_with (fail)
      obtain ⟨W,hW,hwh,hwt⟩:=Y6 HZ5.out (.int .i64 0) (.string ⟨#[]⟩) (.int .i64 0) (.int .i64 0) (.int .i64 0) (.slice none 0 0) (.slice none 0 0)
      rw [hW]
      have hbW:=hwt.below (by have:=HZ5.out.lt;omega)
      clear hW
      have hx:=HOK.out.2
      have ho:=HOK.out.1
      simp only [Bool.and_true,Bool.and_false,Bool.true_and,Bool.false_and] at ho
      subst ho
      simp only [if_true,Bool.false_eq_true,if_false] at hx
      subst hx
      refine bodyPost_ret (Zn rfl _ _ w.heap.size _ _ _ _ _ _ _ _ (.bool false) rfl rfl hwh) rfl ?_
      exact ⟨none,0,0,none,0,0,rfl,RcOwn.nil _ _ _ _ _ _ _,Below.trans HB5.out hbW⟩
    | true =>
      go_wp2_with (fail)
      obtain ⟨W,hW,hwh,hwt⟩:=Y6 HZ5.out (.int .i64 (b0.toNat:Int)) (.string ⟨p.1.key.toArray⟩) (.int .i64 p.1.id) (.int .i64 p.1.no) (.int .i64 p.1.size) (.slice LA ln lc) (.slice BA bn bc)
      rw [hW]
      have hbW:=hwt.below (by have:=HZ5.out.lt;omega)
      clear hW
      have hx:=HOK.out.2
      have ho:=HOK.out.1
      simp only [Bool.and_true,Bool.and_false,Bool.true_and,Bool.false_and] at ho
      subst ho
      simp only [if_true,Bool.false_eq_true,if_false] at hx
      subst hx
      refine bodyPost_ret (Zn rfl _ _ w.heap.size _ _ _ _ _ _ _ _ (.bool true) rfl rfl hwh) rfl ?_
      exact ⟨LA,ln,lc,BA,bn,bc,rfl,⟨Zh (HI5.out.turn hwt (Nat.lt_succ_self _)).locs (Nat.le_succ _),HI5.out.len,Zh (HI5.out.turn hwt (Nat.lt_succ_self _)).b (Nat.le_succ _)⟩,Below.trans HB5.out hbW⟩

 ·have hl:=HL.out
  rw [if_neg h1,eA] at hl
  have HLL:=hid hl
  have h1':¬ (c:Int)=1:=by omega
  clear hl HL
  go_enter Tryz.func148,Tryz.ntmps148
  go_wp2_with (fail)
  refine (Za6 _).mono ?_
  rintro e w1 ⟨rfl,hw1,hb1⟩
  have hl0:=(HLK.out w1 _ hw1)
  have HW1:=hid (show Grows (w.alloc (.cells #[.int .i64 0,.string ⟨#[]⟩,.int .i64 0,.int .i64 0,.int .i64 0,.slice none 0 0,.slice none 0 0] 39)) w1 from hb1)
  have HZ1:=hid (HW1.out.whole (Whole.made w 39 #[.int .i64 0,.string ⟨#[]⟩,.int .i64 0,.int .i64 0,.int .i64 0,.slice none 0 0,.slice none 0 0]))
  simp only [World.size_alloc] at hl0
  clear hw1 hb1
  go_wp2_with (fail)
  have HG1:Hid (Grows w w1):=hid (Grows.trans (Zb w _) HW1.out)
  refine (HP.out _ _ (At.made HLL.out HG1.out)).mono ?_
  rintro e w3 ⟨LA,ln,lc,BA,bn,bc,rfl,hin,ha,ht⟩
  have hgo:=Grows.trans (Zb w1 (.cells #[.func (.func f1) #[] #[],.func (.func f2) #[] #[],.func (.func f3) #[] #[]] 192)) (Zb _ (.cells #[.slice (some ⟨ad.block,ad.off+1,none⟩) (n - 1) (c - 1),.bool false] 251))
  have hz:=ht.whole (hgo.whole HZ1.out) (by have:=HZ1.out.lt;omega)
  have hv:=ht.whole ((Zb _ _).whole (Whole.made w1 192 #[.func (.func f1) #[] #[],.func (.func f2) #[] #[],.func (.func f3) #[] #[]])) (by omega)
  have HB3:=hid (show Below w.heap.size w w3 from Below.trans (Grows.trans HG1.out hgo) (Below.mono (ht.below (by simp)) (Nat.le_trans HG1.out.size (Nat.le_succ _))))
  have HZ3:=hid hz
  have HS3:=hid (ha.up (Zb w3 (.cells #[.int .i64 (b0.toNat:Int),.string ⟨p.1.key.toArray⟩,.int .i64 p.1.id,.int .i64 p.1.no,.int .i64 p.1.size,.slice LA ln lc,.slice BA bn bc] 196)))
  have HI3:=hid (hin.from (show w.heap.size+1≤_ by simp only [World.size_alloc];have:=HZ1.out.lt;omega))
  have HLT:=hid (show w.heap.size < w1.heap.size from HZ1.out.lt)
  have v0:=hv.cell 0
  have v1:=hv.cell 1
  have v2:=hv.cell 2
  simp only [Gt] at v0 v1 v2
  have hl3:=hv.lt
  clear hz hv hin ha ht hgo
  go_wp2_with (fail)
  refine (Zgu (w1.heap.size+1) p.2 _ HS3.out).mono ?_
  rintro e w4 ⟨rfl,rfl⟩
  rw [HU.out]
  obtain ⟨V,hV⟩:∃ V,w3.alloc (.cells #[.int .i64 (b0.toNat:Int),.string ⟨p.1.key.toArray⟩,.int .i64 p.1.id,.int .i64 p.1.no,.int .i64 p.1.size,.slice LA ln lc,.slice BA bn bc] 196)=V:=⟨_,rfl⟩
  have hgV:Grows w3 V:=hV ▸ Zb _ _
  have hrV:Whole V w3.heap.size 196 #[.int .i64 (b0.toNat:Int),.string ⟨p.1.key.toArray⟩,.int .i64 p.1.id,.int .i64 p.1.no,.int .i64 p.1.size,.slice LA ln lc,.slice BA bn bc]:=by rw [←hV];exact Whole.made _ _ _
  have HRV:=hid hrV
  have HZV:=hid (hgV.whole HZ3.out)
  have HIV:=hid (HI3.out.grow hgV)
  have HBV:=hid (Below.trans HB3.out (Below.mono hgV HB3.out.size))
  have v0:=Zh4 hgV v0
  rw [hV]
  clear hgV hrV hV v1 v2
  cases u with
  | false =>
    have hz:=HZV.out
    have zc0:=hz.cell 0
    have zf0:=hz.free 0
    have zc1:=hz.cell 1
    have zf1:=hz.free 1
    have zc2:=hz.cell 2
    have zf2:=hz.free 2
    have zc3:=hz.cell 3
    have zf3:=hz.free 3
    have zc4:=hz.cell 4
    have zf4:=hz.free 4
    have zc5:=hz.cell 5
    have zf5:=hz.free 5
    have zc6:=hz.cell 6
    have zf6:=hz.free 6
    simp only [Gt] at zc0 zc1 zc2 zc3 zc4 zc5 zc6
    clear hz
    go_wp2_with (fail)
    obtain ⟨W,hW,hwh,hwt⟩:=Y6 HZV.out (.int .i64 0) (.string ⟨#[]⟩) (.int .i64 0) (.int .i64 0) (.int .i64 0) (.slice none 0 0) (.slice none 0 0)
    rw [hW]
    have hbW:=hwt.below (by have:=HZV.out.lt;omega)
    clear hW
    have hx:=HOK.out.2
    have ho:=HOK.out.1
    simp only [Bool.and_true,Bool.and_false,Bool.true_and,Bool.false_and] at ho
    subst ho
    simp only [if_true,Bool.false_eq_true,if_false] at hx
    subst hx
    refine bodyPost_ret (Zn rfl _ _ w.heap.size _ _ _ _ _ _ _ _ (.bool false) rfl rfl hwh) rfl ?_
    exact ⟨none,0,0,none,0,0,rfl,RcOwn.nil _ _ _ _ _ _ _,Below.trans HBV.out hbW⟩
  | true =>
    have hr:=HRV.out
    have rc0:=hr.cell 0
    have rf0:=hr.free 0
    have rc1:=hr.cell 1
    have rf1:=hr.free 1
    have rc2:=hr.cell 2
    have rf2:=hr.free 2
    have rc3:=hr.cell 3
    have rf3:=hr.free 3
    have rc4:=hr.cell 4
    have rf4:=hr.free 4
    have rc5:=hr.cell 5
    have rf5:=hr.free 5
    have rc6:=hr.cell 6
    have rf6:=hr.free 6
    simp only [Gt] at rc0 rc1 rc2 rc3 rc4 rc5 rc6
    clear hr
    go_wp2_with (fail)
    refine (HQ.out V LA ln lc BA bn bc HIV.out.inn).mono ?_
    rintro e w5 ⟨rfl,hb5⟩
    have hz:=Grows.whole hb5 HZV.out
    have zc0:=hz.cell 0
    have zf0:=hz.free 0
    have zc1:=hz.cell 1
    have zf1:=hz.free 1
    have zc2:=hz.cell 2
    have zf2:=hz.free 2
    have zc3:=hz.cell 3
    have zf3:=hz.free 3
    have zc4:=hz.cell 4
    have zf4:=hz.free 4
    have zc5:=hz.cell 5
    have zf5:=hz.free 5
    have zc6:=hz.cell 6
    have zf6:=hz.free 6
    simp only [Gt] at zc0 zc1 zc2 zc3 zc4 zc5 zc6
    have HZ5:=hid hz
    have hr:=Grows.whole hb5 HRV.out
    have rc0:=hr.cell 0
    have rf0:=hr.free 0
    have rc1:=hr.cell 1
    have rf1:=hr.free 1
    have rc2:=hr.cell 2
    have rf2:=hr.free 2
    have rc3:=hr.cell 3
    have rf3:=hr.free 3
    have rc4:=hr.cell 4
    have rf4:=hr.free 4
    have rc5:=hr.cell 5
    have rf5:=hr.free 5
    have rc6:=hr.cell 6
    have rf6:=hr.free 6
    simp only [Gt] at rc0 rc1 rc2 rc3 rc4 rc5 rc6
    have HI5:=hid (HIV.out.grow hb5)
    have HB5:=hid (Below.trans HBV.out (Below.mono hb5 HBV.out.size))
    clear hz hr hb5
    cases q with
    | false =>
      go_wp2_with (fail)
      obtain ⟨W,hW,hwh,hwt⟩:=Y6 HZ5.out (.int .i64 0) (.string ⟨#[]⟩) (.int .i64 0) (.int .i64 0) (.int .i64 0) (.slice none 0 0) (.slice none 0 0)
      rw [hW]
      have hbW:=hwt.below (by have:=HZ5.out.lt;omega)
      clear hW
      have hx:=HOK.out.2
      have ho:=HOK.out.1
      simp only [Bool.and_true,Bool.and_false,Bool.true_and,Bool.false_and] at ho
      subst ho
      simp only [if_true,Bool.false_eq_true,if_false] at hx
      subst hx
      refine bodyPost_ret (Zn rfl _ _ w.heap.size _ _ _ _ _ _ _ _ (.bool false) rfl rfl hwh) rfl ?_
      exact ⟨none,0,0,none,0,0,rfl,RcOwn.nil _ _ _ _ _ _ _,Below.trans HB5.out hbW⟩
    | true =>
      go_wp2_with (fail)
      obtain ⟨W,hW,hwh,hwt⟩:=Y6 HZ5.out (.int .i64 (b0.toNat:Int)) (.string ⟨p.1.key.toArray⟩) (.int .i64 p.1.id) (.int .i64 p.1.no) (.int .i64 p.1.size) (.slice LA ln lc) (.slice BA bn bc)
      rw [hW]
      have hbW:=hwt.below (by have:=HZ5.out.lt;omega)
      clear hW
      have hx:=HOK.out.2
      have ho:=HOK.out.1
      simp only [Bool.and_true,Bool.and_false,Bool.true_and,Bool.false_and] at ho
      subst ho
      simp only [if_true,Bool.false_eq_true,if_false] at hx
      subst hx
      refine bodyPost_ret (Zn rfl _ _ w.heap.size _ _ _ _ _ _ _ _ (.bool true) rfl rfl hwh) rfl ?_
      exact ⟨LA,ln,lc,BA,bn,bc,rfl,⟨Zh (HI5.out.turn hwt (Nat.lt_succ_self _)).locs (Nat.le_succ _),HI5.out.len,Zh (HI5.out.turn hwt (Nat.lt_succ_self _)).b (Nat.le_succ _)⟩,Below.trans HB5.out hbW⟩

end Go.Proofs.YtkelafkbmnjpeaaGreat

set_option maxHeartbeats 4000000
set_option maxRecDepth 100000
namespace Go.Proofs.YtkelafkbmnjpeaaGreat
open Go.RowKit

theorem Zps (A:Option Addr) (c:Nat) (w:World) :
 Calls Tryz.prog 148 #[.slice A 0 c] w fun e w'=>∃ LA ln lc BA bn bc,e=.returned (.tuple #[.agg #[.int .i64 0,.string ⟨#[]⟩,.int .i64 0,.int .i64 0,.int .i64 0,.slice LA ln lc,.slice BA bn bc],.bool false])∧RcOwn w' w.heap.size LA ln lc BA bn bc Rc.none∧Below w.heap.size w w':=by
 have HZ:=Lib.hid (Whole.made w 39 #[.int .i64 0,.string ⟨#[]⟩,.int .i64 0,.int .i64 0,.int .i64 0,.slice none 0 0,.slice none 0 0])
 have hz:=HZ.out
 have zc0:=hz.cell 0
 have zf0:=hz.free 0
 have zc1:=hz.cell 1
 have zf1:=hz.free 1
 have zc2:=hz.cell 2
 have zf2:=hz.free 2
 have zc3:=hz.cell 3
 have zf3:=hz.free 3
 have zc4:=hz.cell 4
 have zf4:=hz.free 4
 have zc5:=hz.cell 5
 have zf5:=hz.free 5
 have zc6:=hz.cell 6
 have zf6:=hz.free 6
 simp only [Gt] at zc0 zc1 zc2 zc3 zc4 zc5 zc6
 clear hz
 go_enter Tryz.func148,Tryz.ntmps148
 go_wp2_with (fail)
 first
  | (refine bodyPost_ret (Zn rfl _ _ w.heap.size _ _ _ _ _ _ _ _ (.bool false) rfl rfl HZ.out) rfl ?_
     exact ⟨none,0,0,none,0,0,rfl,RcOwn.nil _ _ _ _ _ _ _,Zb _ _⟩)


theorem Zsh (ad:Addr) (n c:Nat) (b0:UInt8) (bs:List UInt8) (w:World) (hs:Sl w (some ad) n c (b0 :: bs)) (hn:n≤140737488351232)
 (hf:wayOf (b0.toNat:Int)=wNone) (hk:decide ((b0.toNat:Int)=1∨(b0.toNat:Int)=2∨(b0.toNat:Int)=3∨(b0.toNat:Int)=4)=false) :
 Calls Tryz.prog 148 #[.slice (some ad) n c] w fun e w'=>∃ LA ln lc BA bn bc,e=.returned (.tuple #[.agg #[.int .i64 0,.string ⟨#[]⟩,.int .i64 0,.int .i64 0,.int .i64 0,.slice LA ln lc,.slice BA bn bc],.bool false])∧RcOwn w' w.heap.size LA ln lc BA bn bc Rc.none∧Below w.heap.size w w':=by
 have hlen:=hs.len
 simp only [List.length_cons] at hlen
 have hlook:∀ (w1:World) (g:Nat),Zaf w1 g→(Instr.lookup 194 (.map (some g)) (.int .i64 (b0.toNat:Int)) true).run Tryz.prog w1=.ok (.tuple #[.agg #[.nilFunc,.nilFunc,.nilFunc],.bool false]) w1:=fun w1 g h=>by
  have:=Zdq h (b0.toNat:Int)
  rw [hf,hk] at this
  exact this
 have HLK:=Lib.hid hlook
 have hst:=fun a m w=>Zfc a m w
 have hb0:=b0.toNat_lt
 obtain ⟨_,e0,hab,hcell⟩:=hs.bytes.spot (k:=0) (by omega)
 injection e0 with e0
 subst e0
 simp only [List.getD_cons_zero,Addr.add_zero'] at hcell
 have hn0:(1:Int)≤(n:Int):=by omega
 clear hlook hf hk hs
 go_enter Tryz.func148,Tryz.ntmps148
 go_wp2_with (fail)
 refine (Za6 _).mono ?_
 rintro e w1 ⟨rfl,hw1,hb1⟩
 have hl0:=(HLK.out w1 _ hw1)
 have HW1:=Lib.hid (show Grows (w.alloc (.cells #[.int .i64 0,.string ⟨#[]⟩,.int .i64 0,.int .i64 0,.int .i64 0,.slice none 0 0,.slice none 0 0] 39)) w1 from hb1)
 have HZ1:=Lib.hid (HW1.out.whole (Whole.made w 39 #[.int .i64 0,.string ⟨#[]⟩,.int .i64 0,.int .i64 0,.int .i64 0,.slice none 0 0,.slice none 0 0]))
 simp only [World.size_alloc] at hl0
 clear hw1 hb1
 have HZ:=Lib.hid ((Zb w1 (.cells #[.nilFunc,.nilFunc,.nilFunc] 192)).whole HZ1.out)
 have HG:=Lib.hid (Grows.trans (Grows.trans (Zb w _) HW1.out) (Zb w1 (.cells #[.nilFunc,.nilFunc,.nilFunc] 192)))
 have hz:=HZ.out
 have zc0:=hz.cell 0
 have zf0:=hz.free 0
 have zc1:=hz.cell 1
 have zf1:=hz.free 1
 have zc2:=hz.cell 2
 have zf2:=hz.free 2
 have zc3:=hz.cell 3
 have zf3:=hz.free 3
 have zc4:=hz.cell 4
 have zf4:=hz.free 4
 have zc5:=hz.cell 5
 have zf5:=hz.free 5
 have zc6:=hz.cell 6
 have zf6:=hz.free 6
 simp only [Gt] at zc0 zc1 zc2 zc3 zc4 zc5 zc6
 clear hz
 go_wp2_with (fail)
 obtain ⟨W,hW,hwh,hwt⟩:=Y6 HZ.out (.int .i64 0) (.string ⟨#[]⟩) (.int .i64 0) (.int .i64 0) (.int .i64 0) (.slice none 0 0) (.slice none 0 0)
 rw [hW]
 have hbW:=hwt.below (by have:=HZ.out.lt;omega)
 clear hW
 refine bodyPost_ret (Zn rfl _ _ w.heap.size _ _ _ _ _ _ _ _ (.bool false) rfl rfl hwh) rfl ?_
 exact ⟨none,0,0,none,0,0,rfl,RcOwn.nil _ _ _ _ _ _ _,Below.trans HG.out hbW⟩

theorem Zh1 (a:Array Value) (w:World):(callFunc 215 a).run Tryz.prog w=.ok (.enter 215 a) w:=by kernel_rfl
theorem Zjk (a:Array Value) (w:World):(callFunc 218 a).run Tryz.prog w=.ok (.enter 218 a) w:=by kernel_rfl
theorem Zf7 (a:Array Value) (w:World):(callFunc 221 a).run Tryz.prog w=.ok (.enter 221 a) w:=by kernel_rfl
theorem Zjl (a:Array Value) (w:World):(callFunc 224 a).run Tryz.prog w=.ok (.enter 224 a) w:=by kernel_rfl
theorem Zpt (c:UInt8):(1≤c.toNat∧c.toNat≤4)↔((c.toNat:Int)=1∨(c.toNat:Int)=2∨(c.toNat:Int)=3∨(c.toNat:Int)=4):=by omega
theorem Zjm (c:UInt8) (bs:List UInt8):getR (c :: bs)=if 1≤c.toNat∧c.toNat≤4 then (if ((partS c.toNat (bs,false)).2.2=false∧(partS c.toNat (bs,false)).2.1=[])∧Zq { (partS c.toNat (bs,false)).1 with kind:=c.toNat } then some { (partS c.toNat (bs,false)).1 with kind:=c.toNat } else Option.none) else Option.none:=rfl
theorem Zed (c:UInt8) (bs:List UInt8) (h:1≤c.toNat∧c.toNat≤4) (q:Bool) (hq:q=decide (Zq { (partS c.toNat (bs,false)).1 with kind:=c.toNat })) :
 (getR (c :: bs)).isSome=(decide ((partS c.toNat (bs,false)).2.2=false∧(partS c.toNat (bs,false)).2.1=[])&&q) ∧
 (getR (c :: bs)).getD Rc.none=if (decide ((partS c.toNat (bs,false)).2.2=false∧(partS c.toNat (bs,false)).2.1=[])&&q) then { (partS c.toNat (bs,false)).1 with kind:=(c.toNat:Int) } else Rc.none:=by
 subst hq
 rw [Zjm,if_pos h]
 by_cases h1:(partS c.toNat (bs,false)).2.2=false∧(partS c.toNat (bs,false)).2.1=[]
 ·by_cases h2:Zq { (partS c.toNat (bs,false)).1 with kind:=c.toNat }
  ·rw [if_pos ⟨h1,h2⟩,decide_eq_true h1,decide_eq_true h2]
   exact ⟨rfl,rfl⟩
  ·rw [if_neg (fun h=>h2 h.2),decide_eq_true h1,decide_eq_false h2]
   exact ⟨rfl,rfl⟩
 ·rw [if_neg (fun h=>h1 h.1),decide_eq_false h1]
  exact ⟨rfl,rfl⟩

theorem Zku (A:Option Addr) (n c:Nat) (bs:List UInt8) (w:World) (hs:Sl w A n c bs) (hn:n≤140737488351232) :
 Calls Tryz.prog 148 #[.slice A n c] w fun e w'=>∃ LA ln lc BA bn bc,e=.returned (.tuple #[.agg #[.int .i64 ((getR bs).getD Rc.none).kind,.string ⟨((getR bs).getD Rc.none).key.toArray⟩,.int .i64 ((getR bs).getD Rc.none).id,.int .i64 ((getR bs).getD Rc.none).no,.int .i64 ((getR bs).getD Rc.none).size,.slice LA ln lc,.slice BA bn bc],.bool (getR bs).isSome])∧RcOwn w' w.heap.size LA ln lc BA bn bc ((getR bs).getD Rc.none)∧Below w.heap.size w w':=by
 have hlen:=hs.len
 match bs,hlen with
 | [],hlen =>
   obtain rfl:n=0:=by simpa using hlen.symm
   exact Zps A c w
 | b0 :: bs,hlen =>
   simp only [List.length_cons] at hlen
   obtain ⟨ad,rfl,_,_⟩:=hs.bytes.spot (k:=0) (by omega)
   by_cases hk:1≤b0.toNat∧b0.toNat≤4
   ·have hk':=(Zpt b0).1 hk
    have hsl:bs.length≤140737488351232:=by omega
    by_cases h1:(b0.toNat:Int)=1
    ·have hp:partS (b0.toNat:Int) (bs,false)=J0 (bs,false):=by unfold partS;rw [if_pos h1]
     obtain ⟨g1,g2⟩:=Zed b0 bs hk (decide (Jm { (J0 (bs,false)).1 with kind:=(b0.toNat:Int) })) (by rw [hp];exact decide_eq_decide.2 (Za5 (r:={ (J0 (bs,false)).1 with kind:=(b0.toNat:Int) }) h1).symm)
     rw [hp] at g1 g2
     rw [←g1] at g2
     exact Zmd ad n c b0 bs w hs hn _ _ _ (by rw [h1];rfl) (by rw [h1];rfl) J1 Zh1 (J0 (bs,false)) _ _ _ (fun W g h=>Zpp g (bs,false) W h hsl)
      (fun W LA ln lc BA bn bc hin=>Zh3 { (J0 (bs,false)).1 with kind:=(b0.toNat:Int) } LA ln lc BA bn bc W ⟨hin.locs,hin.sl⟩ W (Grows.refl W)) g1.symm g2
    by_cases h2:(b0.toNat:Int)=2
    ·have hp:partS (b0.toNat:Int) (bs,false)=rootS (bs,false):=by unfold partS;rw [if_neg (by omega),if_pos h2]
     obtain ⟨g1,g2⟩:=Zed b0 bs hk (decide (Zbq { (rootS (bs,false)).1 with kind:=(b0.toNat:Int) })) (by rw [hp];exact decide_eq_decide.2 (Zcb (r:={ (rootS (bs,false)).1 with kind:=(b0.toNat:Int) }) h2).symm)
     rw [hp] at g1 g2
     rw [←g1] at g2
     exact Zmd ad n c b0 bs w hs hn _ _ _ (by rw [h2];rfl) (by rw [h2];rfl) Zan Zjk (rootS (bs,false)) _ _ _ (fun W g h=>Zsi g (bs,false) W h hsl)
      (fun W LA ln lc BA bn bc hin=>Zkw { (rootS (bs,false)).1 with kind:=(b0.toNat:Int) } LA ln lc BA bn bc W ⟨hin.locs,hin.sl⟩ W (Grows.refl W)) g1.symm g2
    by_cases h3:(b0.toNat:Int)=3
    ·have hp:partS (b0.toNat:Int) (bs,false)=Yy (bs,false):=by unfold partS;rw [if_neg (by omega),if_neg (by omega),if_pos h3]
     obtain ⟨g1,g2⟩:=Zed b0 bs hk (decide (Y4 { (Yy (bs,false)).1 with kind:=(b0.toNat:Int) })) (by rw [hp];exact decide_eq_decide.2 (Zae (r:={ (Yy (bs,false)).1 with kind:=(b0.toNat:Int) }) h3).symm)
     rw [hp] at g1 g2
     rw [←g1] at g2
     exact Zmd ad n c b0 bs w hs hn _ _ _ (by rw [h3];rfl) (by rw [h3];rfl) Jn Zf7 (Yy (bs,false)) _ _ _ (fun W g h=>Znj g (bs,false) W h hsl)
      (fun W LA ln lc BA bn bc hin=>Zfa { (Yy (bs,false)).1 with kind:=(b0.toNat:Int) } LA ln lc BA bn bc W ⟨hin.locs,hin.sl⟩ W (Grows.refl W)) g1.symm g2
    by_cases h4:(b0.toNat:Int)=4
    ·have hp:partS (b0.toNat:Int) (bs,false)=tombS (bs,false):=by unfold partS;rw [if_neg (by omega),if_neg (by omega),if_neg (by omega)]
     obtain ⟨g1,g2⟩:=Zed b0 bs hk (decide (Zbr { (tombS (bs,false)).1 with kind:=(b0.toNat:Int) })) (by rw [hp];exact decide_eq_decide.2 (Zcc (r:={ (tombS (bs,false)).1 with kind:=(b0.toNat:Int) }) h4).symm)
     rw [hp] at g1 g2
     rw [←g1] at g2
     exact Zmd ad n c b0 bs w hs hn _ _ _ (by rw [h4];rfl) (by rw [h4];rfl) Zao Zjl (tombS (bs,false)) _ _ _ (fun W g h=>Zsf g (bs,false) W h hsl)
      (fun W LA ln lc BA bn bc hin=>Zkx { (tombS (bs,false)).1 with kind:=(b0.toNat:Int) } LA ln lc BA bn bc W ⟨hin.locs,hin.sl⟩ W (Grows.refl W)) g1.symm g2
    omega
   ·have hk':¬ ((b0.toNat:Int)=1∨(b0.toNat:Int)=2∨(b0.toNat:Int)=3∨(b0.toNat:Int)=4):=fun h=>hk ((Zpt b0).2 h)
    have hg:getR (b0 :: bs)=Option.none:=by
     rw [Zjm,if_neg hk]
    rw [hg]
    exact Zsh ad n c b0 bs w hs hn (by unfold wayOf;rw [if_neg (by omega),if_neg (by omega),if_neg (by omega),if_neg (by omega)]) (decide_eq_false hk')
end Go.Proofs.YtkelafkbmnjpeaaGreat
