/-
  Texts that the statements lean on, one behind the other.
-/
import Derived.Test.YtkelafkbmnjpeaaGreatMG11
import Derived.OwnWalk
import Derived.LoopTactic
import Derived.IntWalk
import Derived.Lib.Hide
import Derived.Test.YtkelafkbmnjpeaaGreatMG13
import Derived.Test.YtkelafkbmnjpeaaGreatRcDo
set_option linter.unusedSimpArgs false
set_option linter.unusedVariables false
set_option maxHeartbeats 4000000
set_option maxRecDepth 100000
namespace Go.Proofs.YtkelafkbmnjpeaaGreat
open Go.Lib (hid)
open Go.RowKit

theorem Zmf (x:Int):∀ (k j i:Nat),k=j+1+i→(numB x k)[j]?=some (byteI (x / 256 ^ i))
 | 0,j,i,h=>by omega
 | k+1,0,i,h=>by
   obtain rfl:k=i:=by omega
   rfl
 | k+1,j+1,i,h=>by
   rw [numB,List.getElem?_cons_succ]
   exact Zmf x k j i (by omega)
theorem Zfe (x:Int) (k j i:Nat) (h:k=j+1+i):(numB x k).take (j+1)=(numB x k).take j++[byteI (x / 256 ^ i)]:=by
 have hl:j < (numB x k).length:=by rw [Z1];omega
 have hg:=Zmf x k j i h
 rw [List.getElem?_eq_getElem hl,Option.some.injEq] at hg
 rw [List.take_succ_eq_append_getElem hl,hg]


theorem Ys (base:Nat) (A0:Option Addr) (n0 c0:Nat) (xs:List UInt8) (x:Int) (k:Nat) (w:World) (ho:w.ownsRow base 5 1 (.slice A0 n0 c0) n0 (xs.map byteV)) (hb:base≤w.heap.size) (hn:n0≤1000000) (hk:k≤8) :
 Calls Tryz.prog 274 #[.slice A0 n0 c0,.int .i64 x,.int .i64 (k:Int)] w fun e w'=>∃ A' c',e=.returned (.slice A' (n0+k) c')∧w'.ownsRow base 5 1 (.slice A' (n0+k) c') (n0+k) ((xs++numB x k).map byteV)∧Below base w w'∧Stay w w':=by
 have HO:=hid ho
 clear ho
 have hk1:IntKind.i64.wrap ((k:Int) - 1)=(k:Int) - 1:=IntWalk.i64_in _ ⟨by omega,by omega⟩
 go_enter Tryz.func274,Tryz.ntmps274
 go_wp2_with (fail)
 go_loopw [0,7] (fun m i wr=>∃ (A:Option Addr) (c j n:Nat),j≤k∧i=.int .i64 ((k:Int) - 1 - (j:Int))∧m=.slice A n c∧Hid (n=n0+j)∧Hid (wr.ownsRow base 5 1 (.slice A n c) n ((xs++(numB x k).take j).map byteV))∧Hid (Below base w wr∧Stay w wr)) (fun _ i _=>(intOf i+1).toNat)
 case atStart=>exact ⟨A0,c0,0,n0,by omega,by simp,rfl,hid rfl,hid (by simpa using HO.out),hid ⟨Below.refl _ _,Stay.refl _⟩⟩
 case round =>
  obtain ⟨A,c,j,n,hj,rfl,rfl,HN,HR,HB⟩:=hrel
  by_cases hlt:j < k
  ·obtain ⟨i,hi⟩:∃ i:Nat,k=j+1+i:=⟨k - (j+1),by omega⟩
   have e1:(k:Int) - 1 - (j:Int)=(i:Int):=by omega
   have e2:IntKind.i64.wrap (8*(i:Int))=8*(i:Int):=IntWalk.i64_in _ ⟨by omega,by omega⟩
   have e3:wrap64 (8*(i:Int))=8*(i:Int):=by rw [←IntWalk.i64_left];exact e2
   have e4:IntKind.i64.wrap ((i:Int) - 1)=(i:Int) - 1:=IntWalk.i64_in _ ⟨by omega,by omega⟩
   rw [e1]
   have h0:(0:Int)≤(i:Int):=by omega
   have h7:i≤7:=by omega
   have hby:x / 2 ^ (8*i) % 256=((byteI (x / 256 ^ i)).toNat:Int):=by
    rw [Yn,show (2:Int) ^ (8*i)=256 ^ i by rw [Int.pow_mul];rfl]
   have hnx:=Zfe x k j i hi
   generalize byteI (x / 256 ^ i)=b at *
   have HX:=hid hnx
   have HI:=hid hi
   have hm:=Whole.made wr 5 #[.int .u8 (b.toNat:Int)]
   have HM:=hid (Whole.sl hm [b] rfl (n:=1) rfl)
   have HG:=hid (Zd HR.out (Zb wr (.cells #[.int .u8 (b.toNat:Int)] 5)))
   clear hnx hm hi e1
   go_wp2_with (at_builtin
                refine Za4 isSl_made isSl_made rfl (.tmp 14) (.tmp 20) rfl (base:=base) rfl HG.out (A:=some ⟨wr.heap.size,0,none⟩) (m:=1) (c:=1) rfl HM.out (n+1) rfl (by have:=HN.out;omega) (by have:=HB.out.1.size;simp;omega) ?_
                intro A2 c2 w2 ho2 hb2 hs2
                have HO2:=hid ho2
                have HB2:=hid (And.intro (Below.trans (HB.out.1.alloc (Nat.le_trans hb HB.out.1.size) _) hb2) (Stay.trans HB.out.2 (Stay.trans (Stay.grow (Zb _ _)) hs2)))
                clear ho2 hb2 hs2)
   go_roundw
   case rel=>exact ⟨A2,c2,j+1,n+1,by omega,by (have:=HI.out;congr 1;omega),rfl,hid (by have:=HN.out;omega),hid (by rw [HX.out,←List.append_assoc];exact HO2.out),HB2⟩
   case measure=>(simp [intOf] <;> omega)
  ·obtain rfl:j=k:=by omega
   have e1:(j:Int) - 1 - (j:Int)=-1:=by omega
   rw [e1]
   have HR':=HR.out
   rw [List.take_of_length_le (by rw [Z1];omega),HN.out] at HR'
   have hN:=HN.out
   subst hN
   have HF:=hid HR'
   clear HR'
   go_wp2_with (fail)
   go_ret
   exact ⟨A,c,rfl,by simpa using HF.out,HB.out⟩


end Go.Proofs.YtkelafkbmnjpeaaGreat

namespace Go.Proofs.YtkelafkbmnjpeaaGreat
open Go.Lib (hid)
open Go.RowKit

theorem Y5 (ks:List UInt8):(⟨ks.toArray⟩:ByteArray).size=ks.length:=by simp [ByteArray.size]
theorem Zso (n:Int):numB n 1=[byteI n]:=by simp [numB]

theorem Zgy (base:Nat) (A0:Option Addr) (n0 c0:Nat) (xs ks:List UInt8) (w:World) (ho:w.ownsRow base 5 1 (.slice A0 n0 c0) n0 (xs.map byteV)) (hb:base≤w.heap.size) (hn:n0≤1000000) (hk:ks.length≤64) :
 Calls Tryz.prog 278 #[.slice A0 n0 c0,.string ⟨ks.toArray⟩] w fun e w'=>∃ A' c',e=.returned (.slice A' (n0+1+ks.length) c')∧w'.ownsRow base 5 1 (.slice A' (n0+1+ks.length) c') (n0+1+ks.length) ((xs++keyP ks).map byteV)∧Below base w w'∧Stay w w':=by
 have HO:=hid ho
 have hs:=Y5 ks
 clear ho
 go_enter Tryz.func278,Tryz.ntmps278
 go_wp2_with (fail)
 refine (Ys base A0 n0 c0 xs _ 1 _ HO.out hb hn (by omega)).mono ?_
 rintro e w1 ⟨A1,c1,rfl,ho1,hb1,hs1⟩
 have HO1:=hid ho1
 have HB1:=hid hb1
 have HS1:=hid hs1
 clear ho1 hb1 hs1
 go_wp2_with (at_builtin
              refine Zbu isSl_made rfl (.tmp 8) (.tmp 9) rfl (base:=base) rfl HO1.out (ks:=ks) rfl (n0+1+ks.length) rfl (by omega) (Nat.le_trans hb HB1.out.size) ?_
              intro A2 c2 w2 ho2 hb2 hs2
              have HO2:=hid ho2
              have HB2:=hid (And.intro (Below.trans HB1.out hb2) (Stay.trans HS1.out hs2))
              clear ho2 hb2 hs2)
 go_ret
 refine ⟨A2,c2,rfl,?_,HB2.out⟩
 have:=HO2.out
 rw [Zso,List.append_assoc] at this
 exact this

theorem Zkz (base:Nat) (A0:Option Addr) (n0 c0:Nat) (xs ks:List UInt8) (kd id no size:Int) (LA:Option Addr) (ln lc:Nat) (BA:Option Addr) (bn bc:Nat) (w:World) (ho:w.ownsRow base 5 1 (.slice A0 n0 c0) n0 (xs.map byteV)) (hb:base≤w.heap.size) (hn:n0≤1000000) (hk:ks.length≤64) :
 Calls Tryz.prog 223 #[.agg #[.int .i64 kd,.string ⟨ks.toArray⟩,.int .i64 id,.int .i64 no,.int .i64 size,.slice LA ln lc,.slice BA bn bc],.slice A0 n0 c0] w fun e w'=>∃ A' c',e=.returned (.slice A' (n0+ks.length) c')∧w'.ownsRow base 5 1 (.slice A' (n0+ks.length) c') (n0+ks.length) ((xs++ks).map byteV)∧Below base w w':=by
 have HO:=hid (Zd ho (Zb w (.cells #[.int .i64 kd,.string ⟨ks.toArray⟩,.int .i64 id,.int .i64 no,.int .i64 size,.slice LA ln lc,.slice BA bn bc] 196)))
 clear ho
 go_enter Tryz.func223,Tryz.ntmps223
 go_wp2_with (at_builtin
              refine Zbu isSl_made rfl (.tmp 5) (.tmp 7) rfl (base:=base) rfl HO.out (ks:=ks) rfl (n0+ks.length) rfl (by omega) (by simp;omega) ?_
              intro A2 c2 w2 ho2 hb2 hs2
              have HO2:=hid ho2
              have HB2:=hid (Below.trans ((Below.refl _ w).alloc hb _) hb2)
              clear ho2 hb2 hs2)
 go_ret
 exact ⟨A2,c2,rfl,HO2.out,HB2.out⟩
end Go.Proofs.YtkelafkbmnjpeaaGreat

set_option maxHeartbeats 4000000
set_option maxRecDepth 100000
namespace Go.Proofs.YtkelafkbmnjpeaaGreat
open Go.Lib (hid)
open Go.RowKit

theorem still {wB w w2:World} {base:Nat} (hg:Grows wB w) (hbB:wB.heap.size≤base) (hb:Below base w w2):Grows wB w2:=Below.trans hg (Below.mono hb hbB)

theorem Zh9 (base:Nat) (A0:Option Addr) (n0 c0:Nat) (xs ks:List UInt8) (kd id no size:Int) (LA:Option Addr) (ln lc:Nat) (BA:Option Addr) (bn bc:Nat) (w:World) (ho:w.ownsRow base 5 1 (.slice A0 n0 c0) n0 (xs.map byteV)) (hb:base≤w.heap.size) (hn:n0≤1000) (hk:ks.length≤64) (bs:List UInt8) (wB:World) (hB:Sl wB BA bn bc bs) (hgB:Grows wB w) (hbB:wB.heap.size≤base) (hbn:bn≤4096) :
 Calls Tryz.prog 220 #[.agg #[.int .i64 kd,.string ⟨ks.toArray⟩,.int .i64 id,.int .i64 no,.int .i64 size,.slice LA ln lc,.slice BA bn bc],.slice A0 n0 c0] w fun e w'=>∃ A' c',e=.returned (.slice A' (n0+1+ks.length+bn) c')∧w'.ownsRow base 5 1 (.slice A' (n0+1+ks.length+bn) c') (n0+1+ks.length+bn) ((xs++keyP ks++bs).map byteV)∧Below base w w':=by
 go_enter Tryz.func220,Tryz.ntmps220
 go_wp2_with (fail)
 obtain ⟨W0,hW0⟩:∃ W0,w.alloc (.cells #[.int .i64 kd,.string ⟨ks.toArray⟩,.int .i64 id,.int .i64 no,.int .i64 size,.slice LA ln lc,.slice BA bn bc] 196)=W0:=⟨_,rfl⟩
 have hg0:Grows w W0:=hW0 ▸ Zb _ _
 have hw0:Whole W0 w.heap.size 196 #[.int .i64 kd,.string ⟨ks.toArray⟩,.int .i64 id,.int .i64 no,.int .i64 size,.slice LA ln lc,.slice BA bn bc]:=by rw [←hW0];exact Whole.made _ _ _
 have hc1:∀ w',Whole w' w.heap.size 196 #[.int .i64 kd,.string ⟨ks.toArray⟩,.int .i64 id,.int .i64 no,.int .i64 size,.slice LA ln lc,.slice BA bn bc]→w'.cell? ⟨w.heap.size,1,none⟩=some (.string ⟨ks.toArray⟩):=fun w' h=>h.cell 1
 have hc2:∀ w',Whole w' w.heap.size 196 #[.int .i64 kd,.string ⟨ks.toArray⟩,.int .i64 id,.int .i64 no,.int .i64 size,.slice LA ln lc,.slice BA bn bc]→w'.cell? ⟨w.heap.size,2,none⟩=some (.int .i64 id):=fun w' h=>h.cell 2
 have hc3:∀ w',Whole w' w.heap.size 196 #[.int .i64 kd,.string ⟨ks.toArray⟩,.int .i64 id,.int .i64 no,.int .i64 size,.slice LA ln lc,.slice BA bn bc]→w'.cell? ⟨w.heap.size,3,none⟩=some (.int .i64 no):=fun w' h=>h.cell 3
 have hc4:∀ w',Whole w' w.heap.size 196 #[.int .i64 kd,.string ⟨ks.toArray⟩,.int .i64 id,.int .i64 no,.int .i64 size,.slice LA ln lc,.slice BA bn bc]→w'.cell? ⟨w.heap.size,4,none⟩=some (.int .i64 size):=fun w' h=>h.cell 4
 have hc5:∀ w',Whole w' w.heap.size 196 #[.int .i64 kd,.string ⟨ks.toArray⟩,.int .i64 id,.int .i64 no,.int .i64 size,.slice LA ln lc,.slice BA bn bc]→w'.cell? ⟨w.heap.size,5,none⟩=some (.slice LA ln lc):=fun w' h=>h.cell 5
 have hc6:∀ w',Whole w' w.heap.size 196 #[.int .i64 kd,.string ⟨ks.toArray⟩,.int .i64 id,.int .i64 no,.int .i64 size,.slice LA ln lc,.slice BA bn bc]→w'.cell? ⟨w.heap.size,6,none⟩=some (.slice BA bn bc):=fun w' h=>h.cell 6
 have HO:=hid (Zd ho (Grows.trans hg0 (Z2 W0)))
 have HG:=hid (show Below base w W0.drew from Below.mono (Grows.trans hg0 (Z2 W0)) hb)
 have hsz:base≤W0.drew.heap.size:=Nat.le_trans hb (Grows.trans hg0 (Z2 W0)).size
 have HSZ:=hid hsz
 rw [hW0]
 have hw0':Whole W0.drew w.heap.size 196 #[.int .i64 kd,.string ⟨ks.toArray⟩,.int .i64 id,.int .i64 no,.int .i64 size,.slice LA ln lc,.slice BA bn bc]:=hw0
 clear ho hg0 hsz hW0
 go_region_held3 (fun w'=>Whole w' w.heap.size 196 #[.int .i64 kd,.string ⟨ks.toArray⟩,.int .i64 id,.int .i64 no,.int .i64 size,.slice LA ln lc,.slice BA bn bc]) (with_reducible first | assumption) (first
  | (go_at_call 278
     refine (Zgy base A0 n0 c0 xs ks _ HO.out HSZ.out (by omega) hk).mono ?_
     rintro e w1 ⟨A1,c1,rfl,ho1,hb1,hs1⟩
     have hk1:=hs1 _ _ _ (by decide) (by assumption:Whole _ w.heap.size 196 #[.int .i64 kd,.string ⟨ks.toArray⟩,.int .i64 id,.int .i64 no,.int .i64 size,.slice LA ln lc,.slice BA bn bc])
     have HO1:=hid ho1
     have HB1:=hid (Below.trans HG.out hb1)
     clear ho1 hb1 hs1)
  | (refine Zsg isSl_made isSl_bytes (by rfl) (.tmp 8) (.tmp 10) (by rfl) (base:=base) (by rfl) HO1.out (by rfl) (hB.grow (still hgB hbB HB1.out)) (n0+1+ks.length+bn) rfl (by omega) (Nat.le_trans hb HB1.out.size) ?_
     intro A2 c2 w2 ho2 hb2 hs2
     have hk2:=hs2 _ _ _ (by decide) (by assumption:Whole _ w.heap.size 196 #[.int .i64 kd,.string ⟨ks.toArray⟩,.int .i64 id,.int .i64 no,.int .i64 size,.slice LA ln lc,.slice BA bn bc])
     have HO2:=hid ho2
     have HB2:=hid (Below.trans HB1.out hb2)
     clear ho2 hb2 hs2))
 go_wp2_with (fail)
 go_ret
 exact ⟨A2,c2,rfl,HO2.out,HB2.out⟩

theorem Zjp (base:Nat) (A0:Option Addr) (n0 c0:Nat) (xs ks:List UInt8) (kd id no size:Int) (LA:Option Addr) (ln lc:Nat) (BA:Option Addr) (bn bc:Nat) (w:World) (ho:w.ownsRow base 5 1 (.slice A0 n0 c0) n0 (xs.map byteV)) (hb:base≤w.heap.size) (hn:n0≤1000) (bs:List UInt8) (wB:World) (hB:Sl wB BA bn bc bs) (hgB:Grows wB w) (hbB:wB.heap.size≤base) (hbn:bn≤4096) :
 Calls Tryz.prog 214 #[.agg #[.int .i64 kd,.string ⟨ks.toArray⟩,.int .i64 id,.int .i64 no,.int .i64 size,.slice LA ln lc,.slice BA bn bc],.slice A0 n0 c0] w fun e w'=>∃ A' c',e=.returned (.slice A' (n0+6+2+bn) c')∧w'.ownsRow base 5 1 (.slice A' (n0+6+2+bn) c') (n0+6+2+bn) ((xs++numB id 6++numB no 2++bs).map byteV)∧Below base w w':=by
 go_enter Tryz.func214,Tryz.ntmps214
 go_wp2_with (fail)
 obtain ⟨W0,hW0⟩:∃ W0,w.alloc (.cells #[.int .i64 kd,.string ⟨ks.toArray⟩,.int .i64 id,.int .i64 no,.int .i64 size,.slice LA ln lc,.slice BA bn bc] 196)=W0:=⟨_,rfl⟩
 have hg0:Grows w W0:=hW0 ▸ Zb _ _
 have hw0:Whole W0 w.heap.size 196 #[.int .i64 kd,.string ⟨ks.toArray⟩,.int .i64 id,.int .i64 no,.int .i64 size,.slice LA ln lc,.slice BA bn bc]:=by rw [←hW0];exact Whole.made _ _ _
 have hc1:∀ w',Whole w' w.heap.size 196 #[.int .i64 kd,.string ⟨ks.toArray⟩,.int .i64 id,.int .i64 no,.int .i64 size,.slice LA ln lc,.slice BA bn bc]→w'.cell? ⟨w.heap.size,1,none⟩=some (.string ⟨ks.toArray⟩):=fun w' h=>h.cell 1
 have hc2:∀ w',Whole w' w.heap.size 196 #[.int .i64 kd,.string ⟨ks.toArray⟩,.int .i64 id,.int .i64 no,.int .i64 size,.slice LA ln lc,.slice BA bn bc]→w'.cell? ⟨w.heap.size,2,none⟩=some (.int .i64 id):=fun w' h=>h.cell 2
 have hc3:∀ w',Whole w' w.heap.size 196 #[.int .i64 kd,.string ⟨ks.toArray⟩,.int .i64 id,.int .i64 no,.int .i64 size,.slice LA ln lc,.slice BA bn bc]→w'.cell? ⟨w.heap.size,3,none⟩=some (.int .i64 no):=fun w' h=>h.cell 3
 have hc4:∀ w',Whole w' w.heap.size 196 #[.int .i64 kd,.string ⟨ks.toArray⟩,.int .i64 id,.int .i64 no,.int .i64 size,.slice LA ln lc,.slice BA bn bc]→w'.cell? ⟨w.heap.size,4,none⟩=some (.int .i64 size):=fun w' h=>h.cell 4
 have hc5:∀ w',Whole w' w.heap.size 196 #[.int .i64 kd,.string ⟨ks.toArray⟩,.int .i64 id,.int .i64 no,.int .i64 size,.slice LA ln lc,.slice BA bn bc]→w'.cell? ⟨w.heap.size,5,none⟩=some (.slice LA ln lc):=fun w' h=>h.cell 5
 have hc6:∀ w',Whole w' w.heap.size 196 #[.int .i64 kd,.string ⟨ks.toArray⟩,.int .i64 id,.int .i64 no,.int .i64 size,.slice LA ln lc,.slice BA bn bc]→w'.cell? ⟨w.heap.size,6,none⟩=some (.slice BA bn bc):=fun w' h=>h.cell 6
 have HO:=hid (Zd ho (Grows.trans hg0 (Z2 W0)))
 have HG:=hid (show Below base w W0.drew from Below.mono (Grows.trans hg0 (Z2 W0)) hb)
 have hsz:base≤W0.drew.heap.size:=Nat.le_trans hb (Grows.trans hg0 (Z2 W0)).size
 have HSZ:=hid hsz
 rw [hW0]
 have hw0':Whole W0.drew w.heap.size 196 #[.int .i64 kd,.string ⟨ks.toArray⟩,.int .i64 id,.int .i64 no,.int .i64 size,.slice LA ln lc,.slice BA bn bc]:=hw0
 clear ho hg0 hsz hW0
 go_region_held3 (fun w'=>Whole w' w.heap.size 196 #[.int .i64 kd,.string ⟨ks.toArray⟩,.int .i64 id,.int .i64 no,.int .i64 size,.slice LA ln lc,.slice BA bn bc]) (with_reducible first | assumption) (first
  | (go_at_call 274
     refine (Ys base A1 (n0+6) c1 _ no 2 _ HO1.out (Nat.le_trans hb HB1.out.size) (by omega) (by omega)).mono ?_
     rintro e w2 ⟨A2,c2,rfl,ho2,hb2,hs2⟩
     have hk2:=hs2 _ _ _ (by decide) (by assumption:Whole _ w.heap.size 196 #[.int .i64 kd,.string ⟨ks.toArray⟩,.int .i64 id,.int .i64 no,.int .i64 size,.slice LA ln lc,.slice BA bn bc])
     have HO2:=hid ho2
     have HB2:=hid (Below.trans HB1.out hb2)
     clear ho2 hb2 hs2)
  | (go_at_call 274
     refine (Ys base A0 n0 c0 xs id 6 _ HO.out HSZ.out (by omega) (by omega)).mono ?_
     rintro e w1 ⟨A1,c1,rfl,ho1,hb1,hs1⟩
     have hk1:=hs1 _ _ _ (by decide) (by assumption:Whole _ w.heap.size 196 #[.int .i64 kd,.string ⟨ks.toArray⟩,.int .i64 id,.int .i64 no,.int .i64 size,.slice LA ln lc,.slice BA bn bc])
     have HO1:=hid ho1
     have HB1:=hid (Below.trans HG.out hb1)
     clear ho1 hb1 hs1))
 have m6:=hc6 _ hk2
 have HB6:=hid (hB.grow (still hgB hbB HB2.out))
 go_wp2_with (at_builtin
              refine Za4 isSl_made isSl_bytes rfl (.tmp 12) (.tmp 14) rfl (base:=base) rfl HO2.out rfl HB6.out (n0+6+2+bn) rfl (by omega) (Nat.le_trans hb HB2.out.size) ?_
              intro A3 c3 w3 ho3 hb3 hs3
              have HO3:=hid ho3
              have HB3:=hid (Below.trans HB2.out hb3)
              clear ho3 hb3 hs3)
 go_ret
 exact ⟨A3,c3,rfl,HO3.out,HB3.out⟩
end Go.Proofs.YtkelafkbmnjpeaaGreat

set_option maxHeartbeats 8000000
set_option maxRecDepth 100000
namespace Go.Proofs.YtkelafkbmnjpeaaGreat
open Go.Lib (hid)
open Go.RowKit


theorem Zky (base:Nat) (A0:Option Addr) (n0 c0:Nat) (xs ks:List UInt8) (kd id no size:Int) (LA:Option Addr) (ln lc:Nat) (BA:Option Addr) (bn bc:Nat) (w:World) (ho:w.ownsRow base 5 1 (.slice A0 n0 c0) n0 (xs.map byteV)) (hb:base≤w.heap.size) (hn:n0≤1000) (hk:ks.length≤64) (ls:List Lc) (wB:World) (hL:Locs wB LA ln lc ls) (hgB:Grows wB w) (hbB:wB.heap.size≤base) (hln:ln≤512) :
 Calls Tryz.prog 217 #[.agg #[.int .i64 kd,.string ⟨ks.toArray⟩,.int .i64 id,.int .i64 no,.int .i64 size,.slice LA ln lc,.slice BA bn bc],.slice A0 n0 c0] w fun e w'=>∃ A' c',e=.returned (.slice A' (n0+1+ks.length+6+3+2+10*ln) c')∧w'.ownsRow base 5 1 (.slice A' (n0+1+ks.length+6+3+2+10*ln) c') (n0+1+ks.length+6+3+2+10*ln) ((xs++keyP ks++numB id 6++numB size 3++numB ln 2++locsB ls).map byteV)∧Below base w w':=by
 have hlen:=hL.len
 go_enter Tryz.func217,Tryz.ntmps217
 go_wp2_with (fail)
 obtain ⟨W0,hW0⟩:∃ W0,w.alloc (.cells #[.int .i64 kd,.string ⟨ks.toArray⟩,.int .i64 id,.int .i64 no,.int .i64 size,.slice LA ln lc,.slice BA bn bc] 196)=W0:=⟨_,rfl⟩
 have hg0:Grows w W0:=hW0 ▸ Zb _ _
 have hw0:Whole W0 w.heap.size 196 #[.int .i64 kd,.string ⟨ks.toArray⟩,.int .i64 id,.int .i64 no,.int .i64 size,.slice LA ln lc,.slice BA bn bc]:=by rw [←hW0];exact Whole.made _ _ _
 have hc1:∀ w',Whole w' w.heap.size 196 #[.int .i64 kd,.string ⟨ks.toArray⟩,.int .i64 id,.int .i64 no,.int .i64 size,.slice LA ln lc,.slice BA bn bc]→w'.cell? ⟨w.heap.size,1,none⟩=some (.string ⟨ks.toArray⟩):=fun w' h=>h.cell 1
 have hc2:∀ w',Whole w' w.heap.size 196 #[.int .i64 kd,.string ⟨ks.toArray⟩,.int .i64 id,.int .i64 no,.int .i64 size,.slice LA ln lc,.slice BA bn bc]→w'.cell? ⟨w.heap.size,2,none⟩=some (.int .i64 id):=fun w' h=>h.cell 2
 have hc3:∀ w',Whole w' w.heap.size 196 #[.int .i64 kd,.string ⟨ks.toArray⟩,.int .i64 id,.int .i64 no,.int .i64 size,.slice LA ln lc,.slice BA bn bc]→w'.cell? ⟨w.heap.size,3,none⟩=some (.int .i64 no):=fun w' h=>h.cell 3
 have hc4:∀ w',Whole w' w.heap.size 196 #[.int .i64 kd,.string ⟨ks.toArray⟩,.int .i64 id,.int .i64 no,.int .i64 size,.slice LA ln lc,.slice BA bn bc]→w'.cell? ⟨w.heap.size,4,none⟩=some (.int .i64 size):=fun w' h=>h.cell 4
 have hc5:∀ w',Whole w' w.heap.size 196 #[.int .i64 kd,.string ⟨ks.toArray⟩,.int .i64 id,.int .i64 no,.int .i64 size,.slice LA ln lc,.slice BA bn bc]→w'.cell? ⟨w.heap.size,5,none⟩=some (.slice LA ln lc):=fun w' h=>h.cell 5
 have hc6:∀ w',Whole w' w.heap.size 196 #[.int .i64 kd,.string ⟨ks.toArray⟩,.int .i64 id,.int .i64 no,.int .i64 size,.slice LA ln lc,.slice BA bn bc]→w'.cell? ⟨w.heap.size,6,none⟩=some (.slice BA bn bc):=fun w' h=>h.cell 6
 have HO:=hid (Zd ho (Grows.trans hg0 (Z2 W0)))
 have HG:=hid (show Below base w W0.drew from Below.mono (Grows.trans hg0 (Z2 W0)) hb)
 have hsz:base≤W0.drew.heap.size:=Nat.le_trans hb (Grows.trans hg0 (Z2 W0)).size
 have HSZ:=hid hsz
 rw [hW0]
 have hw0':Whole W0.drew w.heap.size 196 #[.int .i64 kd,.string ⟨ks.toArray⟩,.int .i64 id,.int .i64 no,.int .i64 size,.slice LA ln lc,.slice BA bn bc]:=hw0
 clear ho hg0 hsz hW0
 go_region_held3 (fun w'=>Whole w' w.heap.size 196 #[.int .i64 kd,.string ⟨ks.toArray⟩,.int .i64 id,.int .i64 no,.int .i64 size,.slice LA ln lc,.slice BA bn bc]) (with_reducible first | assumption) (first
  | (go_at_call 274
     refine (Ys base A3 (n0+1+ks.length+6+3) c3 _ (ln:Int) 2 _ HO3.out (Nat.le_trans hb HB3.out.size) (by omega) (by omega)).mono ?_
     rintro e w4 ⟨A4,c4,rfl,ho4,hb4,hs4⟩
     have hk4:=hs4 _ _ _ (by decide) (by assumption:Whole _ w.heap.size 196 #[.int .i64 kd,.string ⟨ks.toArray⟩,.int .i64 id,.int .i64 no,.int .i64 size,.slice LA ln lc,.slice BA bn bc])
     have HO4:=hid ho4
     have HB4:=hid (Below.trans HB3.out hb4)
     clear ho4 hb4 hs4)
  | (go_at_call 274
     refine (Ys base A2 (n0+1+ks.length+6) c2 _ size 3 _ HO2.out (Nat.le_trans hb HB2.out.size) (by omega) (by omega)).mono ?_
     rintro e w3 ⟨A3,c3,rfl,ho3,hb3,hs3⟩
     have hk3:=hs3 _ _ _ (by decide) (by assumption:Whole _ w.heap.size 196 #[.int .i64 kd,.string ⟨ks.toArray⟩,.int .i64 id,.int .i64 no,.int .i64 size,.slice LA ln lc,.slice BA bn bc])
     have HO3:=hid ho3
     have HB3:=hid (Below.trans HB2.out hb3)
     clear ho3 hb3 hs3)
  | (go_at_call 274
     refine (Ys base A1 (n0+1+ks.length) c1 _ id 6 _ HO1.out (Nat.le_trans hb HB1.out.size) (by omega) (by omega)).mono ?_
     rintro e w2 ⟨A2,c2,rfl,ho2,hb2,hs2⟩
     have hk2:=hs2 _ _ _ (by decide) (by assumption:Whole _ w.heap.size 196 #[.int .i64 kd,.string ⟨ks.toArray⟩,.int .i64 id,.int .i64 no,.int .i64 size,.slice LA ln lc,.slice BA bn bc])
     have HO2:=hid ho2
     have HB2:=hid (Below.trans HB1.out hb2)
     clear ho2 hb2 hs2)
  | (go_at_call 278
     refine (Zgy base A0 n0 c0 xs ks _ HO.out HSZ.out (by omega) hk).mono ?_
     rintro e w1 ⟨A1,c1,rfl,ho1,hb1,hs1⟩
     have hk1:=hs1 _ _ _ (by decide) (by assumption:Whole _ w.heap.size 196 #[.int .i64 kd,.string ⟨ks.toArray⟩,.int .i64 id,.int .i64 no,.int .i64 size,.slice LA ln lc,.slice BA bn bc])
     have HO1:=hid ho1
     have HB1:=hid (Below.trans HG.out hb1)
     clear ho1 hb1 hs1))
 have m5:=hc5 _ hk4
 obtain ⟨P,hP⟩:∃ P,xs++keyP ks++numB id 6++numB size 3++numB ln 2=P:=⟨_,rfl⟩
 have HO4':=HO4.out
 rw [hP] at HO4'
 obtain ⟨N,hN⟩:∃ N,n0+1+ks.length+6+3+2=N:=⟨_,rfl⟩
 have HNN:=hid hN
 have HPP:=hid hP
 have HO5:=hid HO4'
 have hN2:N≤2000:=by omega
 have HK4:=hid hk4
 have HLL:=hid hL
 clear HO4' hk4 hk3 hk2 hk1 HO4 HO3 HO2 HO1 hw0 hw0' hc1 hc2 hc3 hc4 hc6 hc5 hP hN hL
 go_wp2_with (fail)
 go_loopw [1,24] (fun m i wr=>∃ (A:Option Addr) (c k n:Nat),k≤ln∧i=.int .i64 (k:Nat)∧m=.slice A n c∧Hid (n=N+10*k)∧Hid (wr.ownsRow base 5 1 (.slice A n c) n ((P++locsB (ls.take k)).map byteV))∧Hid (Below base w wr)) (fun _ i _=>ln - (intOf i).toNat)
 case atStart=>exact ⟨A4,c4,0,n0+1+ks.length+6+3+2,by omega,rfl,rfl,hid (by have:=HNN.out;omega),hid (by simpa [locsB] using HO5.out),HB4⟩
 case round =>
  obtain ⟨A,c,k,n,hk,rfl,rfl,HN,HR,HB⟩:=hrel
  by_cases hlt:k < ln
  ·obtain ⟨ad,rfl,p0,p1,p2⟩:=HLL.out.spot hlt
   have hgw:Grows wB wr:=still hgB hbB HB.out
   have hn3:n≤10000:=by have:=HN.out;omega
   have hnx:=Zh0 ls k (by omega)
   have k0:(0:Int)≤(k:Int):=by omega
   have k1:(k:Int) < (ln:Int):=by omega
   generalize ls.getD k (0,0,0)=l at *
   obtain ⟨l0,l1,l2⟩:=l
   dsimp only at p0 p1 p2 hnx
   have q0:=p0 wr hgw
   have q1:=p1 wr hgw
   have q2:=p2 wr hgw
   have HX:=hid hnx
   have hbr:base≤wr.heap.size:=Nat.le_trans hb HB.out.size
   clear p0 p1 p2 hnx hgw
   go_wp2_with (fail)
   obtain ⟨V,hV⟩:∃ V,wr.alloc (.cells #[.int .i64 l0,.int .i64 l1,.int .i64 l2] 140)=V:=⟨_,rfl⟩
   have hgv:Grows wr V:=hV ▸ Zb _ _
   have hv0:Whole V.drew wr.heap.size 140 #[.int .i64 l0,.int .i64 l1,.int .i64 l2]:=by rw [←hV];exact Whole.made _ _ _
   have hd0:∀ w',Whole w' wr.heap.size 140 #[.int .i64 l0,.int .i64 l1,.int .i64 l2]→w'.cell? ⟨wr.heap.size,0,none⟩=some (.int .i64 l0):=fun w' h=>h.cell 0
   have hd1:∀ w',Whole w' wr.heap.size 140 #[.int .i64 l0,.int .i64 l1,.int .i64 l2]→w'.cell? ⟨wr.heap.size,1,none⟩=some (.int .i64 l1):=fun w' h=>h.cell 1
   have hd2:∀ w',Whole w' wr.heap.size 140 #[.int .i64 l0,.int .i64 l1,.int .i64 l2]→w'.cell? ⟨wr.heap.size,2,none⟩=some (.int .i64 l2):=fun w' h=>h.cell 2
   have HO6:=hid (Zd HR.out (Grows.trans hgv (Z2 V)))
   have HB6:=hid (Below.trans HB.out (Below.mono (Grows.trans hgv (Z2 V)) hbr))
   have hsz:base≤V.drew.heap.size:=Nat.le_trans hbr (Grows.trans hgv (Z2 V)).size
   have HSV:=hid hsz
   rw [hV]
   clear hgv hV hsz
   go_region_held3 (fun w'=>Whole w' wr.heap.size 140 #[.int .i64 l0,.int .i64 l1,.int .i64 l2]) (with_reducible first | assumption) (first
    | (go_at_call 274
       refine (Ys base A8 (n+4+4) c8 _ l2 2 _ HO8.out (Nat.le_trans hb HB8.out.size) (by omega) (by omega)).mono ?_
       rintro e w9 ⟨A9,c9,rfl,ho9,hb9,hs9⟩
       have hk9:=hs9 _ _ _ (by decide) (by assumption:Whole _ wr.heap.size 140 #[.int .i64 l0,.int .i64 l1,.int .i64 l2])
       have HO9:=hid ho9
       have HB9:=hid (Below.trans HB8.out hb9)
       clear ho9 hb9 hs9)
    | (go_at_call 274
       refine (Ys base A7 (n+4) c7 _ l1 4 _ HO7.out (Nat.le_trans hb HB7.out.size) (by omega) (by omega)).mono ?_
       rintro e w8 ⟨A8,c8,rfl,ho8,hb8,hs8⟩
       have hk8:=hs8 _ _ _ (by decide) (by assumption:Whole _ wr.heap.size 140 #[.int .i64 l0,.int .i64 l1,.int .i64 l2])
       have HO8:=hid ho8
       have HB8:=hid (Below.trans HB7.out hb8)
       clear ho8 hb8 hs8)
    | (go_at_call 274
       refine (Ys base A n c _ l0 4 _ HO6.out HSV.out (by omega) (by omega)).mono ?_
       rintro e w7 ⟨A7,c7,rfl,ho7,hb7,hs7⟩
       have hk7:=hs7 _ _ _ (by decide) (by assumption:Whole _ wr.heap.size 140 #[.int .i64 l0,.int .i64 l1,.int .i64 l2])
       have HO7:=hid ho7
       have HB7:=hid (Below.trans HB6.out hb7)
       clear ho7 hb7 hs7))
   go_wp2_with (fail)
   go_roundw
   case rel =>
    refine ⟨A9,c9,k+1,n+4+4+2,by omega,by go_num,rfl,hid (by have:=HN.out;omega),hid ?_,HB9⟩
    have h9:=HO9.out
    rw [HX.out,locsB_append,locsB,locsB,locB,List.append_nil]
    simpa [List.append_assoc] using h9
   case measure=>simp [intOf];omega
  ·obtain rfl:k=ln:=by omega
   have hR:=HR.out
   have hN:=HN.out
   rw [List.take_of_length_le (by omega)] at hR
   subst hN
   have HF:=hid hR
   clear hR
   go_wp2_with (fail)
   go_ret
   have e1:=HNN.out
   have e2:=HPP.out
   subst e1 e2
   exact ⟨A,c,rfl,by simpa using HF.out,HB.out⟩
end Go.Proofs.YtkelafkbmnjpeaaGreat

namespace Go.Proofs.YtkelafkbmnjpeaaGreat
open Go.RowKit
instance (r:Rc):Decidable (Jm r):=by unfold Jm;infer_instance
instance (r:Rc):Decidable (Zbq r):=by unfold Zbq;infer_instance
instance (r:Rc):Decidable (Y4 r):=by unfold Y4 Bare;infer_instance
instance (r:Rc):Decidable (Zbr r):=by unfold Zbr Bare;infer_instance

theorem J1 (a:Array Value) (w:World):(callFunc 213 a).run Tryz.prog w=.ok (.enter 213 a) w:=by kernel_rfl
theorem Zh2 (a:Array Value) (w:World):(callFunc 214 a).run Tryz.prog w=.ok (.enter 214 a) w:=by kernel_rfl
theorem Zan (a:Array Value) (w:World):(callFunc 216 a).run Tryz.prog w=.ok (.enter 216 a) w:=by kernel_rfl
theorem Zjn (a:Array Value) (w:World):(callFunc 217 a).run Tryz.prog w=.ok (.enter 217 a) w:=by kernel_rfl
theorem Jn (a:Array Value) (w:World):(callFunc 219 a).run Tryz.prog w=.ok (.enter 219 a) w:=by kernel_rfl
theorem Zf8 (a:Array Value) (w:World):(callFunc 220 a).run Tryz.prog w=.ok (.enter 220 a) w:=by kernel_rfl
theorem Zao (a:Array Value) (w:World):(callFunc 222 a).run Tryz.prog w=.ok (.enter 222 a) w:=by kernel_rfl
theorem Zjo (a:Array Value) (w:World):(callFunc 223 a).run Tryz.prog w=.ok (.enter 223 a) w:=by kernel_rfl
theorem Za5 {r:Rc} (h:r.kind=1):Zq r↔Jm r:=by
 unfold Zq
 rw [h]
 simp
theorem Zcb {r:Rc} (h:r.kind=2):Zq r↔Zbq r:=by
 unfold Zq
 rw [h]
 simp
theorem Zae {r:Rc} (h:r.kind=3):Zq r↔Y4 r:=by
 unfold Zq
 rw [h]
 simp
theorem Zcc {r:Rc} (h:r.kind=4):Zq r↔Zbr r:=by
 unfold Zq
 rw [h]
 simp
theorem Zgx {r:Rc} (h:¬ (r.kind=1∨r.kind=2∨r.kind=3∨r.kind=4)):¬ Zq r:=by
 unfold Zq
 omega
section
variable (r:Rc) (LA:Option Addr) (ln lc:Nat) (BA:Option Addr) (bn bc:Nat) (w:World)

theorem Zh3 (hin:RcIn w LA ln lc BA bn bc r) (w1:World) (hg:Grows w w1) :
 Calls Tryz.prog 213 #[.agg #[.int .i64 r.kind,.string ⟨r.key.toArray⟩,.int .i64 r.id,.int .i64 r.no,.int .i64 r.size,.slice LA ln lc,.slice BA bn bc]] w1 fun e w2=>e=.returned (.bool (decide (Jm r)))∧Below w1.heap.size w1 w2:=by
 refine (Zf9 _ _ _ _ _ _ _ _ _ _ _ w1).mono ?_
 rintro e w2 ⟨rfl,hb⟩
 refine ⟨Zm ?_,hb⟩
 have h1:=hin.locs.len
 have h2:=hin.sl.len
 subst h1 h2
 rw [decide_eq_decide,Y5]
 rfl
theorem Zkw (hin:RcIn w LA ln lc BA bn bc r) (w1:World) (hg:Grows w w1) :
 Calls Tryz.prog 216 #[.agg #[.int .i64 r.kind,.string ⟨r.key.toArray⟩,.int .i64 r.id,.int .i64 r.no,.int .i64 r.size,.slice LA ln lc,.slice BA bn bc]] w1 fun e w2=>e=.returned (.bool (decide (Zbq r)))∧Below w1.heap.size w1 w2:=by
 refine (Zh5 _ _ _ _ _ _ _ _ _ _ _ r.locs w1 (hin.locs.grow hg)).mono ?_
 rintro e w2 ⟨rfl,hb⟩
 refine ⟨Zm ?_,hb⟩
 have h1:=hin.locs.len
 have h2:=hin.sl.len
 subst h1 h2
 rw [decide_eq_decide,Y5]
 rfl
theorem Zfa (hin:RcIn w LA ln lc BA bn bc r) (w1:World) (hg:Grows w w1) :
 Calls Tryz.prog 219 #[.agg #[.int .i64 r.kind,.string ⟨r.key.toArray⟩,.int .i64 r.id,.int .i64 r.no,.int .i64 r.size,.slice LA ln lc,.slice BA bn bc]] w1 fun e w2=>e=.returned (.bool (decide (Y4 r)))∧Below w1.heap.size w1 w2:=by
 refine (Zfd _ _ _ _ _ _ _ _ _ _ _ w1).mono ?_
 rintro e w2 ⟨rfl,hb⟩
 refine ⟨Zm ?_,hb⟩
 have h1:=hin.locs.len
 have h2:=hin.sl.len
 subst h1 h2
 rw [decide_eq_decide,Y5]
 rfl
theorem Zkx (hin:RcIn w LA ln lc BA bn bc r) (w1:World) (hg:Grows w w1) :
 Calls Tryz.prog 222 #[.agg #[.int .i64 r.kind,.string ⟨r.key.toArray⟩,.int .i64 r.id,.int .i64 r.no,.int .i64 r.size,.slice LA ln lc,.slice BA bn bc]] w1 fun e w2=>e=.returned (.bool (decide (Zbr r)))∧Below w1.heap.size w1 w2:=by
 refine (Zh8 _ _ _ _ _ _ _ _ _ _ _ w1).mono ?_
 rintro e w2 ⟨rfl,hb⟩
 refine ⟨Zm ?_,hb⟩
 have h1:=hin.locs.len
 have h2:=hin.sl.len
 subst h1 h2
 rw [decide_eq_decide,Y5]
 rfl

theorem Zfb (hin:RcIn w LA ln lc BA bn bc r) :
 Calls Tryz.prog 84 #[.agg #[.int .i64 r.kind,.string ⟨r.key.toArray⟩,.int .i64 r.id,.int .i64 r.no,.int .i64 r.size,.slice LA ln lc,.slice BA bn bc]] w fun e w'=>e=.returned (.bool (decide (Zq r)))∧Below w.heap.size w w':=by
 by_cases h1:r.kind=1
 ·rw [show decide (Zq r)=decide (Jm r) from decide_eq_decide.2 (Za5 h1)]
  exact Zef _ _ _ _ _ _ _ _ _ _ _ w _ _ _ _ (by rw [h1];rfl) (by rw [h1];rfl) J1 (fun w1 hg=>Zh3 r LA ln lc BA bn bc w hin w1 hg)
 by_cases h2:r.kind=2
 ·rw [show decide (Zq r)=decide (Zbq r) from decide_eq_decide.2 (Zcb h2)]
  exact Zef _ _ _ _ _ _ _ _ _ _ _ w _ _ _ _ (by rw [h2];rfl) (by rw [h2];rfl) Zan (fun w1 hg=>Zkw r LA ln lc BA bn bc w hin w1 hg)
 by_cases h3:r.kind=3
 ·rw [show decide (Zq r)=decide (Y4 r) from decide_eq_decide.2 (Zae h3)]
  exact Zef _ _ _ _ _ _ _ _ _ _ _ w _ _ _ _ (by rw [h3];rfl) (by rw [h3];rfl) Jn (fun w1 hg=>Zfa r LA ln lc BA bn bc w hin w1 hg)
 by_cases h4:r.kind=4
 ·rw [show decide (Zq r)=decide (Zbr r) from decide_eq_decide.2 (Zcc h4)]
  exact Zef _ _ _ _ _ _ _ _ _ _ _ w _ _ _ _ (by rw [h4];rfl) (by rw [h4];rfl) Zao (fun w1 hg=>Zkx r LA ln lc BA bn bc w hin w1 hg)
 rw [decide_eq_false (Zgx (by omega))]
 exact Znn _ _ _ _ _ _ _ _ _ _ _ w (by unfold wayOf;rw [if_neg h1,if_neg h2,if_neg h3,if_neg h4]) (decide_eq_false (by omega))

theorem Zpv (hin:RcIn w LA ln lc BA bn bc r) :
 Calls Tryz.prog 87 #[.agg #[.int .i64 r.kind,.string ⟨r.key.toArray⟩,.int .i64 r.id,.int .i64 r.no,.int .i64 r.size,.slice LA ln lc,.slice BA bn bc]] w fun e w'=>∃ A' m c',e=.returned (.slice A' m c')∧w'.ownsRow w.heap.size 5 1 (.slice A' m c') m ((putR r).map byteV)∧Below w.heap.size w w':=by
 have hl1:=hin.locs.len
 have hl2:=hin.sl.len
 by_cases h1:r.kind=1
 ·have e:putR r=if decide (Jm r)=true then byteI r.kind :: (numB r.id 6++(numB r.no 2++r.b)) else []:=by
   unfold putR bodyR
   by_cases hr:Jm r
   ·rw [if_pos ((Za5 h1).2 hr),decide_eq_true hr,if_pos rfl,if_pos h1]
   ·rw [if_neg (fun h=>hr ((Za5 h1).1 h)),decide_eq_false hr]
    rfl
  rw [e]
  refine Zme _ _ _ _ _ _ _ _ _ _ _ w _ _ _ _ (by rw [h1];rfl) (by rw [h1];rfl) J1 (fun w1 hg=>Zh3 r LA ln lc BA bn bc w hin w1 hg) _ Zh2 ?_
  intro hq W A c hg ho
  have hq:=of_decide_eq_true hq
  refine (Zjp w.heap.size A 1 c _ _ _ _ _ _ LA ln lc BA bn bc W ho hg.size (by omega) r.b w hin.sl hg (Nat.le_refl _) (by have:=hq.2.2.2.2.2.2;omega)).mono ?_
  rintro e w' ⟨A',c',rfl,ho',hb'⟩
  refine ⟨A',_,c',rfl,?_,hb'⟩
  first
   | exact ho'
   | (rw [hl1];simpa [List.append_assoc] using ho')
   | simpa [List.append_assoc] using ho'
 by_cases h2:r.kind=2
 ·have e:putR r=if decide (Zbq r)=true then byteI r.kind :: (keyP r.key++(numB r.id 6++(numB r.size 3++(numB r.locs.length 2++locsB r.locs)))) else []:=by
   unfold putR bodyR
   by_cases hr:Zbq r
   ·rw [if_pos ((Zcb h2).2 hr),decide_eq_true hr,if_pos rfl,if_neg (by omega),if_pos h2]
   ·rw [if_neg (fun h=>hr ((Zcb h2).1 h)),decide_eq_false hr]
    rfl
  rw [e]
  refine Zme _ _ _ _ _ _ _ _ _ _ _ w _ _ _ _ (by rw [h2];rfl) (by rw [h2];rfl) Zan (fun w1 hg=>Zkw r LA ln lc BA bn bc w hin w1 hg) _ Zjn ?_
  intro hq W A c hg ho
  have hq:=of_decide_eq_true hq
  refine (Zky w.heap.size A 1 c _ _ _ _ _ _ LA ln lc BA bn bc W ho hg.size (by omega) hq.2.2.1.2 r.locs w hin.locs hg (Nat.le_refl _) (by have:=hq.2.2.2.2.2.1;omega)).mono ?_
  rintro e w' ⟨A',c',rfl,ho',hb'⟩
  refine ⟨A',_,c',rfl,?_,hb'⟩
  first
   | exact ho'
   | (rw [hl1];simpa [List.append_assoc] using ho')
   | simpa [List.append_assoc] using ho'
 by_cases h3:r.kind=3
 ·have e:putR r=if decide (Y4 r)=true then byteI r.kind :: (keyP r.key++r.b) else []:=by
   unfold putR bodyR
   by_cases hr:Y4 r
   ·rw [if_pos ((Zae h3).2 hr),decide_eq_true hr,if_pos rfl,if_neg (by omega),if_neg (by omega),if_pos h3]
   ·rw [if_neg (fun h=>hr ((Zae h3).1 h)),decide_eq_false hr]
    rfl
  rw [e]
  refine Zme _ _ _ _ _ _ _ _ _ _ _ w _ _ _ _ (by rw [h3];rfl) (by rw [h3];rfl) Jn (fun w1 hg=>Zfa r LA ln lc BA bn bc w hin w1 hg) _ Zf8 ?_
  intro hq W A c hg ho
  have hq:=of_decide_eq_true hq
  refine (Zh9 w.heap.size A 1 c _ _ _ _ _ _ LA ln lc BA bn bc W ho hg.size (by omega) hq.2.1.2 r.b w hin.sl hg (Nat.le_refl _) (by have:=hq.2.2;omega)).mono ?_
  rintro e w' ⟨A',c',rfl,ho',hb'⟩
  refine ⟨A',_,c',rfl,?_,hb'⟩
  first
   | exact ho'
   | (rw [hl1];simpa [List.append_assoc] using ho')
   | simpa [List.append_assoc] using ho'
 by_cases h4:r.kind=4
 ·have e:putR r=if decide (Zbr r)=true then byteI r.kind :: (r.key) else []:=by
   unfold putR bodyR
   by_cases hr:Zbr r
   ·rw [if_pos ((Zcc h4).2 hr),decide_eq_true hr,if_pos rfl,if_neg (by omega),if_neg (by omega),if_neg (by omega)]
   ·rw [if_neg (fun h=>hr ((Zcc h4).1 h)),decide_eq_false hr]
    rfl
  rw [e]
  refine Zme _ _ _ _ _ _ _ _ _ _ _ w _ _ _ _ (by rw [h4];rfl) (by rw [h4];rfl) Zao (fun w1 hg=>Zkx r LA ln lc BA bn bc w hin w1 hg) _ Zjo ?_
  intro hq W A c hg ho
  have hq:=of_decide_eq_true hq
  refine (Zkz w.heap.size A 1 c _ _ _ _ _ _ LA ln lc BA bn bc W ho hg.size (by omega) hq.2.1.2).mono ?_
  rintro e w' ⟨A',c',rfl,ho',hb'⟩
  refine ⟨A',_,c',rfl,?_,hb'⟩
  first
   | exact ho'
   | (rw [hl1];simpa [List.append_assoc] using ho')
   | simpa [List.append_assoc] using ho'
 refine (Zsm _ _ _ _ _ _ _ _ _ _ _ w (by unfold wayOf;rw [if_neg h1,if_neg h2,if_neg h3,if_neg h4]) (decide_eq_false (by omega))).mono ?_
 rintro e w' ⟨rfl,hb⟩
 refine ⟨none,0,0,rfl,?_,hb⟩
 unfold putR
 rw [if_neg (Zgx (by omega))]
 exact World.ownsRow_nil _ _ _ _

end
end Go.Proofs.YtkelafkbmnjpeaaGreat
