/-
  Texts that the statements lean on, one behind the other.
-/
import Derived.Test.YtkelafkbmnjpeaaGreatMG17
import Derived.Test.YtkelafkbmnjpeaaGreatMG20
import Derived.Test.YtkelafkbmnjpeaaGreatMG03
import Derived.Test.YtkelafkbmnjpeaaGreatMG01
import Derived.Laws.AppendOwn
import Derived.Maps.AppendAt
import Derived.OwnWalkIn
import Derived.Test.YtkelafkbmnjpeaaGreatMG10
import Derived.Test.YtkelafkbmnjpeaaGreatMG19
set_option linter.unusedVariables false
set_option maxHeartbeats 2000000
set_option maxRecDepth 100000
namespace Go.Proofs.YtkelafkbmnjpeaaGreat
open Go.Lib (hid)
open Go.RowKit
theorem Zqr (A:Option Addr) (n c:Nat) (w:World) (hn:n≤maxLen) (h:¬ (1≤n∧n≤8192)) :
 Calls Tryz.prog 131 #[.slice A n c] w fun e w'=>e=.returned (.slice none 0 0)∧Below w.heap.size w w':=by
 unfold maxLen at hn
 have hz:sizeN n=0:=by unfold sizeN;rw [if_neg (by omega)]
 go_enter Tryz.func131,Tryz.ntmps131
 go_wp2_with (fail)
 refine (Yp _ _ (by omega) (by omega)).mono ?_
 rintro e w1 ⟨rfl,rfl⟩
 go_wp2_with (fail)
 go_ret
 exact ⟨rfl,Below.refl _ _⟩
theorem Zth (A:Option Addr) (n c:Nat) (bs:List UInt8) (w:World) (hs:Sl w A n c bs) (h1:1≤n) (h2:n≤8192) :
 Calls Tryz.prog 131 #[.slice A n c] w fun e w'=>∃ A' c',e=.returned (.slice A' (n+8) c')∧w'.ownsRow w.heap.size 5 1 (.slice A' (n+8) c') (n+8) ((Yu bs).map byteV)∧Below w.heap.size w w':=by
 have hz:sizeN n=((n+8:Nat):Int):=by unfold sizeN;rw [if_pos (by omega)];rfl
 have hne:((((n+8:Nat):Int))==0)=false:=by simp;omega
 obtain ⟨i0,hi,hz0,hz1,hz2⟩:=info_parts infoU8
 have HI:=hid hi
 have HZ:=hid (And.intro hz0 (And.intro hz1 hz2))
 have HS:=hid hs
 clear hs hi hz0 hz1 hz2
 generalize hm:((n+8:Nat):Int)=m at *
 go_enter Tryz.func131,Tryz.ntmps131
 go_wp2_with (fail)
 refine (Yp _ _ (by omega) (by omega)).mono ?_
 rintro e w1 ⟨rfl,rfl⟩
 go_wp2_with (fail)
 obtain ⟨b0,b1,b2,b3,hh⟩:=four (Z8 n)
 have hc:=Zbx n w (by omega)
 rw [hh,Zby] at hc
 refine hc.mono ?_
 rintro e w1 ⟨rfl,hb1⟩
 have HH:=hid hh
 have HB1:=hid hb1
 have hlt:∀ b:UInt8,b.toNat < 256:=fun b=>b.toNat_lt
 clear hb1 hc hh
 go_wp2_with (fail)
 have hW1:=Whole.made w1 229 #[Value.int IntKind.u8 ↑b0.toNat,Value.int IntKind.u8 ↑b1.toNat,Value.int IntKind.u8 ↑b2.toNat,Value.int IntKind.u8 ↑b3.toNat]
 have hBW:=HB1.out.alloc HB1.out.size (Obj.cells #[Value.int IntKind.u8 ↑b0.toNat,Value.int IntKind.u8 ↑b1.toNat,Value.int IntKind.u8 ↑b2.toNat,Value.int IntKind.u8 ↑b3.toNat] 229)
 generalize w1.alloc (Obj.cells #[Value.int IntKind.u8 ↑b0.toNat,Value.int IntKind.u8 ↑b1.toNat,Value.int IntKind.u8 ↑b2.toNat,Value.int IntKind.u8 ↑b3.toNat] 229)=W at *
 have hg1:w.heap.size≤w1.heap.size:=HB1.out.size
 generalize w1.heap.size=g1 at *
 obtain ⟨w2,hrun,hown,hgr⟩:=run_make_own (P:=Tryz.prog) W W.heap.size 37 5 i0 _ 1 Tryz.underlying37 HI.out HZ.out.1 HZ.out.2.1 .i64 .i64 (n+8) (by rw [HZ.out.2.2];omega) (by unfold maxLen;omega) (Nat.le_refl _)
 rw [hm] at hrun
 rw [hrun]
 have hb2:Below W.heap.size W w2:=(Below.refl _ W).grown hgr (Nat.le_refl _) (fun k hk=>by cases hk)
 have HOWN:=hid hown
 have HB2:=hid hb2
 have hW2:=Whole.below hW1 hb2 hW1.lt
 have HW2:=hid hW2
 have HBW:=hid hBW
 clear hrun hown hgr hb2 hW2 hBW hW1 HB1 w1
 go_wp2_with (first
  | (at_builtin
     refine Yc rfl (.tmp 17) (.tmp 18) _ rfl Tryz.underlying37 HI.out HZ.out.1 HZ.out.2.1 HZ.out.2.2 rfl (v:=.slice (some ⟨W.heap.size,0,none⟩) 0 (n+8)) rfl HOWN.out (A:=some ⟨g1,0,none⟩) (m:=4) (c:=4) rfl (row4 HW2.out) (fun h=>by cases h) (Y2 _) 4 rfl ([b0,b1,b2,b3].map byteV) rfl (by unfold maxLen;omega) (by omega) HB2.out.size ?_
     intro A3 c3 w3 hown3 hbare3 hg3 hat3
     have hb3:Below W.heap.size W w3:=HB2.out.grown hg3 HB2.out.size (fun k hk=>by injection hk with hk;exact Nat.le_of_eq hk)
     have HOWN3:=hid hown3
     have HB3:=hid hb3
     have HX3:=hid (Sl.grow ((HBW.out.trans (hb3.mono HBW.out.size))) HS.out)
     clear hown3 hbare3 hg3 hat3 hb3)
  | (at_builtin
     refine Yc rfl (.tmp 20) (.tmp 21) _ rfl Tryz.underlying37 HI.out HZ.out.1 HZ.out.2.1 HZ.out.2.2 rfl (v:=.slice A3 4 c3) rfl HOWN3.out (A:=A) (m:=n) (c:=c) rfl HX3.out.bytes HX3.out.bare (Y2 _) (n+4) (by omega) (([b0,b1,b2,b3]++bs).map byteV) (List.map_append).symm (by unfold maxLen;omega) (by omega) HB3.out.size ?_
     intro A4 c4 w4 hown4 hbare4 hg4 hat4
     have hb4:Below W.heap.size W w4:=HB3.out.grown hg4 HB3.out.size (fun k hk=>(HOWN3.out.lt k hk).1)
     have HOWN4:=hid hown4
     have HB4:=hid hb4
     clear hown4 hbare4 hg4 hat4 hb4))
 obtain ⟨d0,d1,d2,d3,hd⟩:=four (Jh ([b0,b1,b2,b3]++bs))
 have hc:=Zfx A4 (n+4) c4 ([b0,b1,b2,b3]++bs) w4 (Sl.owned HOWN4.out) (by unfold maxLen;omega)
 rw [hd,Zby] at hc
 refine hc.mono ?_
 rintro e w5 ⟨rfl,hb5⟩
 have HD:=hid hd
 have HB5:=hid hb5
 have hW6:=Whole.made w5 229 #[Value.int IntKind.u8 ↑d0.toNat,Value.int IntKind.u8 ↑d1.toNat,Value.int IntKind.u8 ↑d2.toNat,Value.int IntKind.u8 ↑d3.toNat]
 have HW6:=hid hW6
 have hb6:=hb5.alloc hb5.size (Obj.cells #[Value.int IntKind.u8 ↑d0.toNat,Value.int IntKind.u8 ↑d1.toNat,Value.int IntKind.u8 ↑d2.toNat,Value.int IntKind.u8 ↑d3.toNat] 229)
 have HOWN6:=hid (Zd HOWN4.out hb6)
 have HB6:=hid (HB4.out.trans (hb6.mono HB4.out.size))
 clear hb5 hc hd hW6 hb6 HB4 HB3 HB2 HOWN4 HOWN3 HOWN HX3 HW2 HB5
 go_wp2_with (first
  | (at_builtin
     refine Yc rfl (.tmp 25) (.tmp 26) _ rfl Tryz.underlying37 HI.out HZ.out.1 HZ.out.2.1 HZ.out.2.2 rfl (v:=.slice A4 (n+4) c4) rfl HOWN6.out (A:=some ⟨w5.heap.size,0,none⟩) (m:=4) (c:=4) rfl (row4 HW6.out) (fun h=>by cases h) (Y2 _) (n+8) (by omega) ((([b0,b1,b2,b3]++bs)++[d0,d1,d2,d3]).map byteV) (List.map_append).symm (by unfold maxLen;omega) (by omega) HB6.out.size ?_
     intro A7 c7 w7 hown7 hbare7 hg7 hat7
     have hb7:Below W.heap.size W w7:=HB6.out.grown hg7 HB6.out.size (fun k hk=>(HOWN6.out.lt k hk).1)
     have HOWN7:=hid hown7
     have HB7:=hid hb7
     clear hown7 hbare7 hg7 hat7 hb7))
 go_ret
 refine ⟨A7,c7,rfl,?_,HBW.out.trans (HB7.out.mono HBW.out.size)⟩
 have hf:Yu bs=([b0,b1,b2,b3]++bs)++[d0,d1,d2,d3]:=by
  unfold Yu
  rw [HS.out.len,HH.out,HD.out]
 rw [hf]
 exact Zg HOWN7.out HBW.out.size
theorem Za9 (A:Option Addr) (n c:Nat) (bs:List UInt8) (w:World) (hs:Sl w A n c bs) (hn:n≤maxLen) :
 Calls Tryz.prog 131 #[.slice A n c] w fun e w'=>∃ A' m c',e=.returned (.slice A' m c')∧w'.ownsRow w.heap.size 5 1 (.slice A' m c') m ((putB bs).map byteV)∧Below w.heap.size w w':=by
 have hl:=hs.len
 by_cases h:1≤n∧n≤8192
 ·refine (Zth A n c bs w hs h.1 h.2).mono ?_
  rintro e w' ⟨A',c',rfl,hs',hb⟩
  refine ⟨A',n+8,c',rfl,?_,hb⟩
  unfold putB
  rw [hl,if_pos h]
  exact hs'
 ·refine (Zqr A n c w hn h).mono ?_
  rintro e w' ⟨rfl,hb⟩
  refine ⟨none,0,0,rfl,?_,hb⟩
  unfold putB
  rw [hl,if_neg h]
  exact World.ownsRow_nil _ _ _ _
end Go.Proofs.YtkelafkbmnjpeaaGreat
set_option maxRecDepth 100000
namespace Go.Proofs.YtkelafkbmnjpeaaGreat
open Go.RowKit
section
variable {B d K:Nat} {w0 w w':World} {out:Nat→Prop} {m m':Dk}
theorem DkIn.beside (h:DkIn B w0 w d out m) (cs:Array Value) (t:TypeId):DkIn B w0 (w.alloc (.cells cs t)) d (fun k=>out k∨k=w.heap.size) m :=
 (h.more (Za w (.cells cs t))).less fun k hk=>hk.imp id fun e=>by rw [World.size_alloc];omega
theorem DkIn.news (h:DkIn B w0 w d out m) (hg:Grows w w'):DkIn B w0 w' d (fun k=>out k∨w.heap.size≤k∧k < w'.heap.size) m:=h.more hg
theorem Stays.whole {t:TypeId} {cs:Array Value} {g:Nat} (hs:Stays B out w w') (h:Whole w g t cs) (ho:out g):Whole w' g t cs:=h.same (hs.same g h.lt fun e=>e.2 ho)
theorem Stays.less {out':Nat→Prop} (hs:Stays B out' w w') (ho:∀ k,out k→out' k):Stays B out w w':=hs.wider fun k _ hk=>⟨hk.1,fun e=>hk.2 (ho k e)⟩
end
def Zbz (W:World) (bs:List UInt8):Fact Grows:=⟨Option Addr×Nat,(none,0),fun p=>.slice p.1 bs.length p.2,fun p w=>w.ownsRow W.heap.size 5 1 (.slice p.1 bs.length p.2) bs.length (bs.map byteV),fun _ _ _ h g=>Zd h g⟩
section
variable {P:Program} {ops:Array Oper} {W:World} {Q:Act→World→Prop} {o:Oper} {rest:List Oper} {fs:List (Fact Grows)} {ks:Known} {a:Act}
theorem f_own (bs:List UInt8) (f:FuncId) (args:Array Value) (hw:Region.wanted o (yielded ops a.tmps)=true) (h1:∀ w,Grows W w→(execOp a.eval o).run P w=.ok (.enter f args) w)
 (hc:∀ w,Grows W w→ks.for (o.looksAt ops) w→Calls P f args w fun e w'=>∃ A m c,e=.returned (.slice A m c)∧w'.ownsRow w.heap.size 5 1 (.slice A m c) m (bs.map byteV)∧Below w.heap.size w w')
 (h2:∀ A c,wpF P ops Grows W Q rest fs ((o.dst,fun w=>w.ownsRow W.heap.size 5 1 (.slice A bs.length c) bs.length (bs.map byteV)) :: ks) (a.put o.dst (.slice A bs.length c))) :
 wpF P ops Grows W Q (o :: rest) (Zbz W bs :: fs) ks a:=by
 unfold wpF fStep
 rw [if_pos hw]
 refine ⟨fun w hW hk=>?_,fun x=>h2 x.1 x.2⟩
 unfold gives
 rw [h1 w hW]
 refine (hc w hW hk).mono fun e w' ⟨A,m,c,he,hs,hb⟩=>?_
 obtain rfl:bs.length=m:=by have:=hs.1;simpa using this
 exact ⟨hb,(A,c),he,Zg hs hW.size⟩
end
def Jo (bs:List UInt8) (er:Int):Fact Grows:=⟨Option Addr×Nat,(none,0),fun p=>.tuple #[.slice p.1 bs.length p.2,.int .i64 er],fun p w=>Sl w p.1 bs.length p.2 bs,fun _ _ _ h g=>Sl.grow g h⟩
section
variable {P:Program} {ops:Array Oper} {W:World} {Q:Act→World→Prop} {o:Oper} {rest:List Oper} {fs:List (Fact Grows)} {ks:Known} {a:Act}
theorem f_got (bs:List UInt8) (er:Int) (f:FuncId) (args:Array Value) (hw:Region.wanted o (yielded ops a.tmps)=true) (h1:∀ w,Grows W w→(execOp a.eval o).run P w=.ok (.enter f args) w)
 (hc:∀ w,Grows W w→ks.for (o.looksAt ops) w→Calls P f args w fun e w'=>∃ A c,e=.returned (.tuple #[.slice A bs.length c,.int .i64 er])∧Sl w' A bs.length c bs∧Grows w w')
 (h2:∀ A c,wpF P ops Grows W Q rest fs ((o.dst,fun w=>Sl w A bs.length c bs) :: ks) (a.put o.dst (.tuple #[.slice A bs.length c,.int .i64 er]))) :
 wpF P ops Grows W Q (o :: rest) (Jo bs er :: fs) ks a:=by
 unfold wpF fStep
 rw [if_pos hw]
 refine ⟨fun w hW hk=>?_,fun x=>h2 x.1 x.2⟩
 unfold gives
 rw [h1 w hW]
 exact (hc w hW hk).mono fun e w' ⟨A,c,he,hs,hb⟩=>⟨hb,(A,c),he,hs⟩
theorem Zj4 (bs:List UInt8) (er:Int) (A:Option Addr) (c:Nat) (hw:Region.wanted o (yielded ops a.tmps)=true) (h1:∀ w,Grows W w→ks.for (o.looksAt ops) w→(execOp a.eval o).run P w=.ok (.value (.tuple #[.slice A bs.length c,.int .i64 er])) w∧Sl w A bs.length c bs)
 (h2:∀ A c,wpF P ops Grows W Q rest fs ((o.dst,fun w=>Sl w A bs.length c bs) :: ks) (a.put o.dst (.tuple #[.slice A bs.length c,.int .i64 er]))) :
 wpF P ops Grows W Q (o :: rest) (Jo bs er :: fs) ks a:=by
 unfold wpF fStep
 rw [if_pos hw]
 refine ⟨fun w hW hk=>?_,fun x=>h2 x.1 x.2⟩
 unfold gives
 rw [(h1 w hW hk).1]
 exact ⟨Grows.refl w,(A,c),rfl,(h1 w hW hk).2⟩
theorem f_slv (bs:List UInt8) (A:Option Addr) (c:Nat) (hw:Region.wanted o (yielded ops a.tmps)=true) (h1:∀ w,Grows W w→ks.for (o.looksAt ops) w→(execOp a.eval o).run P w=.ok (.value (.slice A bs.length c)) w∧Sl w A bs.length c bs)
 (h2:∀ A c,wpF P ops Grows W Q rest fs ((o.dst,fun w=>Sl w A bs.length c bs) :: ks) (a.put o.dst (.slice A bs.length c))) :
 wpF P ops Grows W Q (o :: rest) (Jq bs :: fs) ks a:=by
 unfold wpF fStep
 rw [if_pos hw]
 refine ⟨fun w hW hk=>?_,fun x=>h2 x.1 x.2⟩
 unfold gives
 rw [(h1 w hW hk).1]
 exact ⟨Grows.refl w,(A,c),rfl,(h1 w hW hk).2⟩
end
theorem Zim {w:World} {b:Nat} {A:Option Addr} {n c:Nat} {bs:List UInt8} (h:w.ownsRow b 5 1 (.slice A n c) n (bs.map byteV)):∀ ad,A=some ad→b≤ad.block∧ad.block < w.heap.size:=fun ad e=>by
 subst e
 exact h.lt ad.block rfl
theorem Zqn (w:World) {A:Option Addr} {n c:Nat} {bs:List UInt8} {A2:Option Addr} {n2 c2:Nat} {bs2:List UInt8} (h1:Sl w A n c bs) (h2:Sl w A2 n2 c2 bs2) :
 Calls Tryz.prog 155 #[.slice A n c,.slice A2 n2 c2] w fun e w'=>e=.returned (.bool (decide (bs=bs2)))∧w=w':=by
 have r1:=Z5 h1
 have r2:=Z5 h2
 clear h1 h2
 go_enter Tryz.func155,Tryz.ntmps155
 go_wp2_with (fail)
 go_ret
 exact ⟨by rw [show (bs==bs2)=decide (bs=bs2) from Bool.eq_iff_iff.2 (by simp)];rfl,rfl⟩
end Go.Proofs.YtkelafkbmnjpeaaGreat
set_option maxHeartbeats 4000000
set_option maxRecDepth 100000
namespace Go.Proofs.YtkelafkbmnjpeaaGreat
open Go.Lib (hid)
open Go.RowKit
attribute [local irreducible] wpF
def Zil (ts:List It) (n:Int):Bool:=match ts with
 | []=>false
 | t :: _=>decide (t.1=0)&&decide (t.2.2=Zz n)
theorem Znz (w:World) (d:Nat) (n:Int) (hn:-9223372036854775808≤n∧n≤9223372036854775807) {A:Option Addr} {k c:Nat} {ts:List It} (hI:Items w A k c ts) :
 Calls Tryz.prog 150 #[.agg (segV d n),.slice A k c] w fun e w'=>e=.returned (.bool (Zil ts n))∧Grows w w':=by
 have HFB:=hid (fun w'=>Zeh w' d n hn)
 have HFL:=hid (Yk n)
 have hwm:=Whole.made w 176 (segV d n)
 unfold segV at HFB hwm ⊢
 obtain ⟨s,hs⟩:∃ s:ByteArray,(⟨(nmS n).toArray⟩:ByteArray)=s:=⟨_,rfl⟩
 rw [hs] at HFB hwm ⊢
 have HG:=hid (Za w (.cells #[.pointer (some ⟨d,0,none⟩),.int .i64 n,.string s] 176))
 have HC:=hid (show ∀ w',Grows (w.alloc (.cells #[.pointer (some ⟨d,0,none⟩),.int .i64 n,.string s] 176)) w'→w'.cell? { block:=w.heap.size,off:=0 }=some (.pointer (some ⟨d,0,none⟩))∧w'.cell? { block:=w.heap.size,off:=1 }=some (.int .i64 n)∧w'.cell? { block:=w.heap.size,off:=2 }=some (.string s) from fun w' hC=>by
  have hx:=hC.whole hwm
  exact ⟨hx.cell 0,hx.cell 1,hx.cell 2⟩)
 clear hs hwm
 have hkl:=hI.len
 match ts,hI,hkl with
 | [],hI,hkl =>
   obtain rfl:k=0:=by simpa using hkl.symm
   show Calls _ _ _ _ fun e w'=>e=.returned (.bool false)∧Grows w w'
   clear hI hkl
   go_enter Tryz.func150,Tryz.ntmps150
   go_wp2_with (fail)
   refine Zi (E:=Grows) [Zb (.slice A 0 c),Zb (.int .i64 0),Zb (.bool false),Zb (.bool false),Zb undef,Zb undef,Zb undef,Zb undef,Zb undef,Zb (.bool false),Zb (.bool false),Zb undef,Zb undef,Zb undef,Zb undef,Zb undef,Zb undef,Zb undef,Zb (.bool false),Zb (.bool false)] (by kernel_rfl) (by kernel_rfl) (fun _ _ _=>Grows.trans) (Zf _) ?_
   iterate 4
    refine f_val _ (by rfl) ?_ ?_
    ·intro w' hC;clear hC;go_simp
    simp only [Pu]
   iterate 5
    refine Zck (by rfl) ?_
    simp only [Pu]
   iterate 2
    refine f_val _ (by rfl) ?_ ?_
    ·intro w' hC;clear hC;go_simp
    simp only [Pu]
   iterate 7
    refine Zck (by rfl) ?_
    simp only [Pu]
   iterate 2
    refine f_val _ (by rfl) ?_ ?_
    ·intro w' hC;clear hC;go_simp
    simp only [Pu]
   refine Zr ?_
   intro w5 hC hks
   have HCw5:=hid hC
   clear hC hks
   go_wp2_with (fail)
   go_ret
   exact ⟨rfl,Grows.trans HG.out HCw5.out⟩
 | t :: ts,hI,hkl =>
   obtain ⟨ad,B,m,dd,hA,c1,c2,c3,hsl⟩:=hI.spot (i:=0) (by rw [List.length_cons] at hkl;omega)
   subst hA
   simp only [Nat.zero_mul,Addr.add_zero',List.getD_cons_zero] at c1 c2 c3 hsl
   have hkn:0 < k:=by rw [List.length_cons] at hkl;omega
   have hk0:(0:Int) < (k:Int):=by omega
   have HI:=hid (show ∀ w',Grows (w.alloc (.cells #[.pointer (some ⟨d,0,none⟩),.int .i64 n,.string s] 176)) w'→w'.cell? ad=some (.int .i64 (t.1:Nat))∧w'.cell? { block:=ad.block,off:=ad.off+2 }=some (.slice B m dd) from fun w' hg=>⟨c1 w' (Grows.trans HG.out hg),c3 w' (Grows.trans HG.out hg)⟩)
   have HSL:=hid hsl
   clear c1 c2 c3 hsl hI hkl
   show Calls _ _ _ _ fun e w'=>e=.returned (.bool (decide (t.1=0)&&decide (t.2.2=Zz n)))∧Grows w w'
   obtain ⟨⟨t1,t2,tb⟩,ht⟩:∃ q,t=q:=⟨_,rfl⟩
   subst ht
   dsimp only at HI HSL ⊢
   by_cases ht1:t1=0
   rotate_left 1
   ·have hz:((t1:Int)==0)=false:=by rw [beq_eq_false_iff_ne];omega
    have hz':¬ ((t1:Int)=0):=by omega
    rw [decide_eq_false ht1,Bool.false_and]
    clear ht1
    go_enter Tryz.func150,Tryz.ntmps150
    go_wp2_with (fail)
    refine Zi (E:=Grows) [Zb (.slice (some ad) k c),Zb (.int .i64 (k:Nat)),Zb (.bool true),Zb (.bool true),Zb (.slice (some ad) k c),Zb (.pointer (some ad)),Zb (.pointer (some ad)),Zb (.int .i64 (t1:Nat)),Zb (.bool false),Zb (.bool false),Zb (.bool false),Zb undef,Zb undef,Zb undef,Zb undef,Zb undef,Zb undef,Zb undef,Zb (.bool false),Zb (.bool false)] (by kernel_rfl) (by kernel_rfl) (fun _ _ _=>Grows.trans) (Zf _) ?_
    iterate 7
     refine f_val _ (by rfl) ?_ ?_
     ·intro w' hC;clear hC;go_simp
     simp only [Pu]
    refine f_val _ (by rfl) ?_ ?_
    ·intro w' hC;obtain ⟨z1,z2⟩:=HI.out w' hC;clear hC;go_simp
    simp only [Pu]
    iterate 3
     refine f_val _ (by rfl) ?_ ?_
     ·intro w' hC;clear hC;go_simp
     simp only [Pu]
    iterate 7
     refine Zck (by rfl) ?_
     simp only [Pu]
    iterate 2
     refine f_val _ (by rfl) ?_ ?_
     ·intro w' hC;clear hC;go_simp
     simp only [Pu]
    refine Zr ?_
    intro w5 hC hks
    have HCw5:=hid hC
    clear hC hks
    go_wp2_with (fail)
    go_ret
    exact ⟨rfl,Grows.trans HG.out HCw5.out⟩
   ·subst ht1
    rw [decide_eq_true (Eq.refl 0),Bool.true_and]
    have HEQ:=hid (fun w' (hg:Grows (w.alloc (.cells #[.pointer (some ⟨d,0,none⟩),.int .i64 n,.string s] 176)) w')=>(HSL.out.grow (Grows.trans HG.out hg)))
    obtain ⟨q,hq⟩:∃ q,decide (tb=Zz n)=q:=⟨_,rfl⟩
    rw [hq]
    have HQ:=hid hq
    clear hq
    go_enter Tryz.func150,Tryz.ntmps150
    go_wp2_with (fail)
    refine Zi (E:=Grows) [Zb (.slice (some ad) k c),Zb (.int .i64 (k:Nat)),Zb (.bool true),Zb (.bool true),Zb (.slice (some ad) k c),Zb (.pointer (some ad)),Zb (.pointer (some ad)),Zb (.int .i64 0),Zb (.bool true),Zb (.bool true),Zb (.bool true),Zb (.slice (some ad) k c),Zb (.pointer (some ad)),Zb (.pointer (some ⟨ad.block,ad.off+2,none⟩)),Zb (.slice B m dd),Zb (.agg #[.pointer (some ⟨d,0,none⟩),.int .i64 n,.string s]),Jq (Zz n),Zb (.bool q),Zb (.bool q),Zb (.bool q)] (by kernel_rfl) (by kernel_rfl) (fun _ _ _=>Grows.trans) (Zf _) ?_
    iterate 7
     refine f_val _ (by rfl) ?_ ?_
     ·intro w' hC;clear hC;go_simp
     simp only [Pu]
    refine f_val _ (by rfl) ?_ ?_
    ·intro w' hC;obtain ⟨z1,z2⟩:=HI.out w' hC;clear hC;go_simp
    simp only [Pu]
    iterate 6
     refine f_val _ (by rfl) ?_ ?_
     ·intro w' hC;clear hC;go_simp
     simp only [Pu]
    refine f_val _ (by rfl) ?_ ?_
    ·intro w' hC;obtain ⟨z1,z2⟩:=HI.out w' hC;clear hC;go_simp
    simp only [Pu]
    refine f_val _ (by rfl) ?_ ?_
    ·intro w' hC;obtain ⟨y1,y2,y3⟩:=HC.out w' hC;clear hC;go_simp
    simp only [Pu]
    refine f_new (Zz n) 132 #[.agg #[.pointer (some ⟨d,0,none⟩),.int .i64 n,.string s]] (by rfl) (by intro w' hC;clear hC;go_simp) ?_ ?_
    ·intro w' hC hks;exact (HFB.out w').mono fun e w'' ⟨g2,he,hlt,hsl,hgr⟩=>⟨some ⟨g2,0,none⟩,5,5,he,hsl,hgr⟩
    intro FA fc
    simp only [Pu]
    refine Z4 155 #[.slice B m dd,.slice FA (Zz n).length fc] (.bool q) (by rfl) (by intro w' hC;clear hC;go_simp) ?_ ?_
    ·intro w' hC hks;have he:=Zqn w' (HEQ.out w' hC) (Known.get hks 0 rfl rfl);rw [HQ.out] at he;exact he.mono fun e w'' hh=>⟨hh.1,hh.2 ▸ Grows.refl _⟩
    simp only [Pu]
    iterate 2
     refine f_val _ (by rfl) ?_ ?_
     ·intro w' hC;clear hC;go_simp
     simp only [Pu]
    refine Zr ?_
    intro w5 hC hks
    have HCw5:=hid hC
    clear hC hks
    go_wp2_with (fail)
    go_ret
    exact ⟨rfl,Grows.trans HG.out HCw5.out⟩
end Go.Proofs.YtkelafkbmnjpeaaGreat
namespace Go.Proofs.YtkelafkbmnjpeaaGreat
open Go.RowKit
theorem Zhj {w:World} {base:Nat} {e:TypeId} {size:Nat} {v:Value} {n:Nat} {xs:List Value} (h:w.ownsRow base e size v n xs):∃ A c,v=.slice A n c:=by
 rcases h.2 with ⟨rfl,rfl⟩ | ⟨g,cap,_,rfl,_⟩
 ·exact ⟨none,0,rfl⟩
 ·exact ⟨_,cap,rfl⟩
section
variable {F:Fence} {n:Nat} {P:Program} {w:World} {ops:Array Oper} {rest:List Oper} {o:Oper} {a:Act} {Q:Exit→Act→World→Prop}
theorem Zbd (hg:o.guard=none) (s x:Operand) (t:TypeId) (hop:o.op=Op.call { callee:=Callee.builtin Builtin.append,args:=#[s,x],argTypes:=#[t,t] })
 (base:Nat) (e:TypeId) (i:TypeInfo) (z:Value) (size bytes:Nat) (h1:P.underlying t=some (.slice e)) (h2:P.info? e=some i) (h3:i.zero=some z) (h4:i.size=size) (h5:i.bytes=bytes) (h6:z.cells.size=size) (h7:0 < size)
 (v:Value) (k:Nat) (xs:List Value) (hs:a.eval s=v) (hown:w.ownsRow base e size v k xs) (ad:Addr) (m c:Nat) (news:List Value) (hx:a.eval x=.slice (some ad) m c) (hn:news.length=m*size)
 (hc:∀ j u,news[j]?=some u→w.cell? (ad.add j)=some u) (h1c:∀ u∈news,u.oneCell'=true) (b1:k+m≤maxLen) (b2:(k+m)*bytes≤140737488355328) (b3:base≤w.heap.size)
 (hK:∀ A' c' w',w'.ownsRow base e size (.slice A' (k+m) c') (k+m) (xs++news)→w.grownBy w' v.ownBlock→((Value.slice A' (k+m) c').ownBlock=v.ownBlock∨(Value.slice A' (k+m) c').ownBlock=some w.heap.size)→wpListIn F n P ops Q rest (a.put o.dst (.slice A' (k+m) c')) w') :
 wpListIn F n P ops Q (o :: rest) a w:=by
 refine wpListIn_plain hg fun K hK'=>?_
 obtain ⟨v',w',hrun,r1,r2,_,r3⟩:=run_append_own_at (P:=P) (w:=w) base t o.type e i z size bytes h1 h2 h3 h4 h5 h6 h7 v k xs hown ad m c news hn hc h1c b1 b2 b3
 obtain ⟨A',c',rfl⟩:=Zhj r1
 unfold Oper.wpIn
 refine ⟨?_,?_⟩
 ·simp [Oper.about,hop,resolve,Target.leads,Sem.run_pure]
 ·rw [Oper.semAt_plain F _ _ (by rw [hop];intro c hc';cases hc')]
  simp only [execOp,hop,resolve,invoke,builtin,Sem.run_bind,Sem.run_pure,Result.andThen_ok,List.map_toArray,List.map_cons,List.map_nil,hs,hx,hrun]
  exact hK' _ _ (hK A' c' w' r1 r2 r3)
theorem Zgr (hg:o.guard=none) (s x:Operand) (t:TypeId) (hop:o.op=Op.call { callee:=Callee.builtin Builtin.append,args:=#[s,x],argTypes:=#[t,t] })
 (base:Nat) (e:TypeId) (i:TypeInfo) (z:Value) (size bytes:Nat) (h1:P.underlying t=some (.slice e)) (h2:P.info? e=some i) (h3:i.zero=some z) (h4:i.size=size) (h5:i.bytes=bytes) (h6:z.cells.size=size) (h7:0 < size)
 {v:Value} {k:Nat} {xs:List Value} (hs:a.eval s=v) (hown:w.ownsRow base e size v k xs) {A:Option Addr} {m c:Nat} {B:Nat} {news:List Value} (hx:a.eval x=.slice A m c) (hr:Row w B A (size*m) news) (hbare:A=none→c=0)
 (h1c:∀ u∈news,u.oneCell'=true) (j:Nat) (hj:k+m=j) (b1:j≤maxLen) (b2:j*bytes≤140737488355328) (b3:base≤w.heap.size)
 (hK:∀ A' c' w',w'.ownsRow base e size (.slice A' j c') j (xs++news)→w.grownBy w' v.ownBlock→((Value.slice A' j c').ownBlock=v.ownBlock∨(Value.slice A' j c').ownBlock=some w.heap.size)→wpList P ops Q rest (a.put o.dst (.slice A' j c')) w') :
 wpList P ops Q (o :: rest) a w:=by
 subst hj
 refine wpList_plain hg fun K hK'=>?_
 have key:∃ v' w',(Builtin.append_ #[t,t] o.type #[v,.slice A m c]).run P w=.ok v' w'∧w'.ownsRow base e size v' (k+m) (xs++news)∧w.grownBy w' v.ownBlock∧(v'.ownBlock=v.ownBlock∨v'.ownBlock=some w.heap.size):=by
  rcases A with _ | ad
  ·have hnil:news=[]:=by
    rcases news with _ | ⟨u,us⟩
    ·rfl
    ·obtain ⟨ad,he,_⟩:=hr.spot 0 u rfl
     cases he
   subst hnil
   have hm:m=0:=by
    have:=hr.len
    simp only [List.length_nil] at this
    rcases Nat.eq_zero_or_pos m with h | h
    ·exact h
    ·have:=Nat.mul_pos h7 h;omega
   have hc:=hbare rfl
   subst hm hc
   exact ⟨v,w,run_append_owned_none (P:=P) (w:=w) base t o.type e i size h1 h2 v k xs hown,by simpa using hown,World.grownBy.refl w _,.inl rfl⟩
  ·obtain ⟨v',w',hrun,r1,r2,_,r3⟩:=run_append_own_at (P:=P) (w:=w) base t o.type e i z size bytes h1 h2 h3 h4 h5 h6 h7 v k xs hown ad m c news (by rw [hr.len,Nat.mul_comm])
    (fun j u hu=>by obtain ⟨ad',he,_,hc⟩:=hr.spot j u hu;injection he with he;subst he;exact hc) h1c b1 b2 b3
   exact ⟨v',w',hrun,r1,r2,r3⟩
 obtain ⟨v',w',hrun,r1,r2,r3⟩:=key
 obtain ⟨A',c',rfl⟩:=Zhj r1
 unfold Oper.wp execOp
 simp only [hop,resolve,invoke,builtin,Sem.run_bind,Sem.run_pure,Result.andThen_ok,List.map_toArray,List.map_cons,List.map_nil,hs,hx,hrun]
 exact hK' _ _ (hK A' c' w' r1 r2 r3)
end
end Go.Proofs.YtkelafkbmnjpeaaGreat
namespace Go.Proofs.YtkelafkbmnjpeaaGreat
open Go.RowKit
def GotTo (w:World) (r:Option (List UInt8)×Int) (e:Ending) (w':World):Prop:=∃ A c,e=.returned (.tuple #[.slice A (r.1.getD []).length c,.int .i64 r.2])∧Sl w' A (r.1.getD []).length c (r.1.getD [])∧Grows w w'
theorem Zgw.got {w w':World} {r:Option (List UInt8)×Int} {e:Ending} (h:Zgw w r e w'):GotTo w r e w':=by
 unfold Zgw at h
 unfold GotTo
 cases hr:r.1 with
 | none =>
   rw [hr] at h
   obtain ⟨h1,rfl⟩:=h
   exact ⟨none,0,h1,Sl.nil _,Grows.refl _⟩
 | some bs =>
   rw [hr] at h
   exact ⟨_,_,h.1,Sl.owned h.2.1,h.2.2⟩
theorem Zdj {m:Dk} {n:Nm} {x k:Int} (h:(m.read n x k).2=0):∃ bs,(m.read n x k).1=some bs∧(bs.length:Int)=k:=by
 by_cases hd:m.down=true
 ·have e:m.read n x k=(none,82):=by unfold Dk.read;rw [if_pos hd]
  rw [e] at h;cases h
 cases hf:Dir.find n m.names with
 | none =>
   have e:m.read n x k=(none,3):=by unfold Dk.read;rw [if_neg hd,hf]
   rw [e] at h;cases h
 | some f =>
   by_cases hc:x < 0∨k < 0∨((m.files f).bytes.length:Int) < x∨((m.files f).bytes.length:Int) - x < k
   ·have e:m.read n x k=(none,1):=by unfold Dk.read;rw [if_neg hd,hf];dsimp only;rw [if_pos hc]
    rw [e] at h;cases h
   ·have e:m.read n x k=(some (((m.files f).bytes.drop x.toNat).take k.toNat),0):=by unfold Dk.read;rw [if_neg hd,hf];dsimp only;rw [if_neg hc]
    rw [e]
    refine ⟨_,rfl,?_⟩
    rw [List.length_take,List.length_drop]
    omega
section
variable {B d K:Nat} {w0 w:World} {out:Nat→Prop} {m:Dk}
theorem Zdk (n:Nm) (x k:Int) (h:DkIn B w0 w d out m) (ok:DkOk K m) (hK:K≤1000000000) (hn:n.length≤1000000) (hx:-9223372036854775808≤x∧x≤9223372036854775807) (hk:-9223372036854775808≤k∧k≤9223372036854775807) {r:Option (List UInt8)×Int} (hr:m.read n x k=r) :
 Calls Tryz.prog 93 #[.pointer (some ⟨d,0,none⟩),.string ⟨n.toArray⟩,.int .i64 x,.int .i64 k] w fun e w'=>GotTo w r e w':=(Zvb n x k h ok hK hn hx hk hr).mono fun e w' h=>h.got
end
end Go.Proofs.YtkelafkbmnjpeaaGreat
namespace Go.Proofs.YtkelafkbmnjpeaaGreat
open Go.RowKit Go.Shelf
attribute [local go_sem] Oper.semAt_some
theorem Y6 {n₀ m b i:Nat} {X Y:World} (u:Value) (hY:X.setCell ⟨b,i,none⟩ u=Y) (h1:n₀≤b) (h2:b < m):Zc (fun k=>n₀≤k∧k < m) X Y:=hY ▸ (Zc.refl _ X).setCell (p:=⟨b,i,none⟩) ⟨h1,h2⟩ u
theorem J3 {X Y:World} {g t i:Nat} {cs:Array Value} (u:Value) (h:Whole X g t cs) (hY:X.setCell ⟨g,i,none⟩ u=Y):Whole Y g t (cs.setIfInBounds i u):=hY ▸ h.put i u
theorem Zo {X Y:World} {g t b i:Nat} {cs:Array Value} (u:Value) (h:Whole X g t cs) (hY:X.setCell ⟨b,i,none⟩ u=Y) (hne:g≠b):Whole Y g t cs:=hY ▸ h.elsewhere (p:=⟨b,i,none⟩) hne u
end Go.Proofs.YtkelafkbmnjpeaaGreat
