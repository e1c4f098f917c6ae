/-
  Texts that the statements lean on, one behind the other.
-/
import Derived.Test.YtkelafkbmnjpeaaGreatMG30
import Derived.Test.YtkelafkbmnjpeaaGreatMG19
import Derived.Test.YtkelafkbmnjpeaaGreatMG01
import Derived.Test.YtkelafkbmnjpeaaGreatMG16
import Derived.Test.YtkelafkbmnjpeaaGreatMG11
import Derived.Test.YtkelafkbmnjpeaaGreatMG03
import Derived.Shelf.SlSortCmp.NoneTotal
import Derived.Test.YtkelafkbmnjpeaaGreatProg
set_option linter.unusedVariables false
set_option maxHeartbeats 4000000
set_option maxRecDepth 100000
namespace Go.Proofs.YtkelafkbmnjpeaaGreat
open Go.Lib (hid)
open Go.RowKit
attribute [local irreducible] wpF
theorem Zsx (h:Ht) (w:World) (hk:h.key.length≤100):Calls Tryz.prog 204 #[htV h] w fun e w'=>∃ A c,e=.returned (.slice A (7+h.key.length) c) ∧
 w'.ownsRow w.heap.size 5 1 (.slice A (7+h.key.length) c) (7+h.key.length) ((bodyH h).map byteV)∧Grows w w':=by
 obtain ⟨k,key,a,s⟩:=h
 show Calls _ _ #[.agg #[.int .i64 k,.string ⟨key.toArray⟩,.int .i64 a,.int .i64 s]] _ _
 replace hk:key.length≤100:=hk
 have hm:=Whole.made w 167 #[.int .i64 k,.string ⟨key.toArray⟩,.int .i64 a,.int .i64 s]
 have hg:=Za w (.cells #[.int .i64 k,.string ⟨key.toArray⟩,.int .i64 a,.int .i64 s] 167)
 obtain ⟨W1,hW1⟩:∃ y,w.alloc (.cells #[.int .i64 k,.string ⟨key.toArray⟩,.int .i64 a,.int .i64 s] 167)=y:=⟨_,rfl⟩
 rw [hW1] at hm hg
 have HG:=hid hg
 have HC:=hid (fun w' (hC:Grows W1 w')=>by
  have h1:=hC.whole hm
  exact (⟨h1.cell 0,h1.cell 1,h1.cell 2,h1.cell 3⟩:w'.cell? { block:=w.heap.size,off:=0 }=some (.int .i64 k)∧w'.cell? { block:=w.heap.size,off:=1 }=some (.string ⟨key.toArray⟩)∧w'.cell? { block:=w.heap.size,off:=2 }=some (.int .i64 a)∧w'.cell? { block:=w.heap.size,off:=3 }=some (.int .i64 s)))
 clear hm hg
 obtain ⟨z0,z1,z2,z3⟩:=HC.out W1 (Below.refl _ _)
 go_enter Tryz.func204,Tryz.ntmps204
 go_wp2_with (fail)
 clear hW1
 refine (Je W1.heap.size none 0 0 [] k 1 W1 (World.ownsRow_nil _ _ _ _) (Nat.le_refl _) (by omega) (by omega)).mono ?_
 rintro e w2 ⟨A2,c2,rfl,ho2,hb2,_⟩
 clear z0 z1 z2 z3
 obtain ⟨z0,z1,z2,z3⟩:=HC.out w2 hb2
 have H2:=hid (And.intro ho2 hb2)
 clear ho2 hb2
 go_wp2_with (fail)
 refine (Je W1.heap.size A2 (0+1) c2 _ a 4 w2 H2.out.1 H2.out.2.size (by omega) (by omega)).mono ?_
 rintro e w3 ⟨A3,c3,rfl,ho3,hb3,_⟩
 clear z0 z1 z2 z3
 obtain ⟨z0,z1,z2,z3⟩:=HC.out w3 (H2.out.2.trans hb3)
 have H3:=hid (And.intro ho3 (H2.out.2.trans hb3))
 clear ho3 hb3 H2
 go_wp2_with (fail)
 refine (Je W1.heap.size A3 (0+1+4) c3 _ s 2 w3 H3.out.1 H3.out.2.size (by omega) (by omega)).mono ?_
 rintro e w4 ⟨A4,c4,rfl,ho4,hb4,_⟩
 clear z0 z1 z2 z3
 obtain ⟨z0,z1,z2,z3⟩:=HC.out w4 (H3.out.2.trans hb4)
 have H4:=hid (And.intro ho4 (H3.out.2.trans hb4))
 clear ho4 hb4 H3
 obtain ⟨k7,hk7⟩:∃ k7,7+key.length=k7:=⟨_,rfl⟩
 have HK:=hid hk7
 clear hk7
 go_wp2_with (first
  | (at_builtin
     refine Zce isSl_bytes rfl (.tmp 15) (.tmp 17) rfl (base:=W1.heap.size) rfl H4.out.1 rfl k7 HK.out (by have:=HK.out;omega) H4.out.2.size ?_
     intro A5 c5 w5 ho5 hb5 hs5
     have H5:=hid (And.intro ho5 (H4.out.2.trans hb5))
     clear ho5 hb5 hs5)
  | fail)
 go_ret
 refine ⟨A5,c5,?_,?_,HG.out.trans H5.out.2⟩
 ·rw [HK.out];rfl
 ·rw [HK.out]
  exact Zg (show _ from by simpa [bodyH] using H5.out.1) HG.out.size
theorem Zde (s:Int) (w:World) :
 Calls Tryz.prog 152 #[.int .i64 s] w fun e w'=>e=.returned (.bool (okS s))∧Grows w w':=by
 go_enter Tryz.func152,Tryz.ntmps152
 go_wp2_with (fail)
 refine (Zdj s 0 1073741824 w).mono ?_
 rintro e w' ⟨rfl,hg⟩
 have HG:=hid hg
 clear hg
 go_wp2_with (fail)
 go_ret
 exact ⟨rfl,HG.out⟩
theorem Zlg (cnt size:Int) (A:Option Addr) (n c:Nat) (bs:List UInt8) (w:World) (hs:Sl w A n c bs) (hn:n≤maxLen):Calls Tryz.prog 156 #[.int .i64 cnt,.int .i64 size,.slice A n c] w fun e w'=>∃ A' c',e=.returned (.slice A' 13 c') ∧
 w'.ownsRow w.heap.size 5 1 (.slice A' 13 c') 13 ((lastB cnt size bs).map byteV)∧Grows w w':=by
 have HS:=hid hs
 have hm:=Whole.made w 5 #[.int .u8 7]
 have hg:=Za w (.cells #[.int .u8 7] 5)
 obtain ⟨W1,hW1⟩:∃ y,w.alloc (.cells #[.int .u8 7] 5)=y:=⟨_,rfl⟩
 rw [hW1] at hm hg
 have ho1:W1.ownsRow w.heap.size 5 1 (.slice (some ⟨w.heap.size,0,none⟩) 1 1) 1 (([7]:List UInt8).map byteV):=⟨rfl,.inr ⟨w.heap.size,1,#[.int .u8 7],rfl,Nat.le_refl _,hm,Nat.le_refl _,by unfold maxLen;omega,rfl,rfl⟩⟩
 have H1:=hid (And.intro ho1 hg)
 clear hm hg ho1 hs
 go_enter Tryz.func156,Tryz.ntmps156
 go_wp2_with (fail)
 clear hW1
 refine (Je w.heap.size _ 1 1 [7] cnt 4 W1 H1.out.1 H1.out.2.size (by omega) (by omega)).mono ?_
 rintro e w2 ⟨A2,c2,rfl,ho2,hb2,_⟩
 have H2:=hid (And.intro ho2 (Below.trans (show Below w.heap.size w W1 from H1.out.2) hb2))
 clear ho2 hb2
 go_wp2_with (fail)
 refine (Je w.heap.size A2 (1+4) c2 _ size 4 w2 H2.out.1 H2.out.2.size (by omega) (by omega)).mono ?_
 rintro e w3 ⟨A3,c3,rfl,ho3,hb3,_⟩
 have H3:=hid (And.intro ho3 (Below.trans H2.out.2 hb3))
 clear ho3 hb3 H2 H1
 obtain ⟨N,hN⟩:∃ N,onN tabN 0 bs=N:=⟨_,rfl⟩
 have hlt:N < 4294967296:=hN ▸ Zvx tabN 0 bs
 have kw:IntKind.i64.wrap (N:Int)=(N:Int):=IntWalk.i64_in _ ⟨by omega,by omega⟩
 have HN:=hid hN
 clear hN hlt
 go_wp2_with (fail)
 refine (Zk5 w3).mono ?_
 rintro e w4 ⟨rfl,hb4⟩
 have hb4:Grows w3 w4:=hb4
 have H4:=hid (And.intro (Zd H3.out.1 hb4) (Below.trans H3.out.2 (hb4.mono H3.out.2.size)))
 clear hb4 H3
 go_wp2_with (fail)
 refine (Zv2 tabN tabN_all A n c bs w4 ((HS.out.grow H4.out.2).bytes) hn).mono ?_
 rw [HN.out]
 rintro e w5 ⟨rfl,hb5⟩
 have hb5:Grows w4 w5:=hb5
 have H5:=hid (And.intro (Zd H4.out.1 hb5) (Below.trans H4.out.2 (hb5.mono H4.out.2.size)))
 clear hb5 H4
 go_wp2_with (fail)
 refine (Je w.heap.size A3 (1+4+4) c3 _ N 4 w5 H5.out.1 H5.out.2.size (by omega) (by omega)).mono ?_
 rintro e w6 ⟨A6,c6,rfl,ho6,hb6,_⟩
 have H6:=hid (And.intro ho6 (Below.trans H5.out.2 hb6))
 clear ho6 hb6 H5
 go_wp2_with (fail)
 go_ret
 refine ⟨A6,c6,rfl,?_,H6.out.2⟩
 have:=H6.out.1
 unfold lastB
 rw [HN.out]
 exact this
theorem Zlh {q:Nat}:∀ (l:List Ht),(∀ h∈l,15+h.key.length≤q)→(l.map fun h=>15+h.key.length).sum≤q*l.length
 | [],_=>Nat.zero_le _
 | h :: l,hh=>by
   have h1:=Zlh l fun x hx=>hh x (List.mem_cons_of_mem _ hx)
   have h2:=hh h List.mem_cons_self
   rw [List.map_cons,List.sum_cons,List.length_cons,Nat.mul_add]
   omega
theorem Ziu {l:List Ht} (ha:∀ h∈l,Zam h=true):(rowsH l).length≤79*l.length:=by
 rw [rowsH_length ha]
 exact Zlh _ fun y hy=>by have:=Zc6 (ha y hy);omega
theorem Zve (A:Option Addr) (n c:Nat) (l:List Ht) (size:Int) (w:World) (h:Hts w A n c l) (hn:n≤1000000000000) (hsz:-9223372036854775808≤size∧size≤9223372036854775807) :
 Calls Tryz.prog 136 #[.slice A n c,.int .i64 size] w fun e w'=>∃ A' m c',e=.returned (.slice A' m c')∧m=(putH l size).length ∧
  w'.ownsRow w.heap.size 5 1 (.slice A' m c') m ((putH l size).map byteV)∧Grows w w':=by
 have HX:=hid h
 have hlen:=h.len
 have HR:=hid (Ziw A n c l w h (by omega))
 obtain ⟨r,hr⟩:∃ r,J3 l=r:=⟨_,rfl⟩
 obtain ⟨o,ho⟩:∃ o,okS size=o:=⟨_,rfl⟩
 have HS:=hid (fun w'=>show Calls Tryz.prog 152 #[.int .i64 size] w' fun e w''=>e=.returned (.bool o)∧Grows w' w'' from ho ▸ Zde size w')
 rw [hr] at HR
 have HRO:=hid (And.intro hr ho)
 clear hr ho h
 go_enter Tryz.func136,Tryz.ntmps136
 go_wp2_with (fail)
 refine HR.out.mono ?_
 rintro e w1 ⟨rfl,hg1⟩
 have HG1:=hid hg1
 clear hg1
 cases r
 ·go_wp2_with (fail)
  go_ret
  refine ⟨none,0,0,rfl,?_,?_,HG1.out⟩
  ·rw [Zea (.inl HRO.out.1)];rfl
  ·rw [Zea (.inl HRO.out.1)];exact World.ownsRow_nil _ _ _ _
 go_wp2_with (fail)
 refine (HS.out w1).mono ?_
 rintro e w2 ⟨rfl,hg2⟩
 have HG2:=hid (HG1.out.trans hg2)
 clear hg2
 cases o
 ·go_wp2_with (fail)
  go_ret
  refine ⟨none,0,0,rfl,?_,?_,HG2.out⟩
  ·rw [Zea (.inr HRO.out.2)];rfl
  ·rw [Zea (.inr HRO.out.2)];exact World.ownsRow_nil _ _ _ _
 have HAL:=hid (rightF_all HRO.out.1)
 have HLE:=hid hlen
 clear hlen
 go_wp2_with (fail)
 go_loopw [5,18] (fun b i wr=>∃ (j:Nat) (B:Option Addr) (m cb:Nat),j≤n∧i=.int .i64 (j:Nat)∧b=.slice B m cb∧Hid (m=(rowsH (l.take j)).length)∧Hid (wr.ownsRow w.heap.size 5 1 (.slice B m cb) m ((rowsH (l.take j)).map byteV))∧Hid (Below w.heap.size w wr)) (fun _ i _=>n - (intOf i).toNat)
 case atStart=>exact ⟨0,none,0,0,by omega,rfl,rfl,hid rfl,hid (World.ownsRow_nil _ _ _ _),HG2⟩
 case round =>
  obtain ⟨j,B,m,cb,hj,rfl,rfl,HM,HO,HG⟩:=hrel
  by_cases hlt:j < n
  ·obtain ⟨ad,x,rfl,hx,hb,hc⟩:=Hts.at (HX.out.grow HG.out) hlt
   have k0:(0:Int)≤(j:Int):=by omega
   have k1:(j:Int) < (n:Int):=by omega
   obtain ⟨c0,c1,c2,c3⟩:=hc _ (Below.refl _ _)
   have htk:l.take (j+1)=l.take j++[x]:=by rw [List.take_add_one,hx];rfl
   have hax:=HAL.out x (List.mem_of_getElem? hx)
   have hnx:=Zc6 hax
   have hrow:rowsH (l.take (j+1))=rowsH (l.take j)++putB (bodyH x):=by
    unfold rowsH
    rw [htk,List.map_append,putL_append,List.map_cons,List.map_nil,putL,putL,List.append_nil]
   have hrl:(rowsH (l.take j)).length≤79*j:=by
    have:=Ziu (l:=l.take j) fun y hy=>HAL.out y (List.mem_of_mem_take hy)
    rw [List.length_take] at this
    omega
   have hpb:(putB (bodyH x)).length≤79:=by
    rw [Yd (Ze0 hax),Zh,Zaz]
    omega
   have HQ:=hid (And.intro hrow (And.intro hrl (And.intro hpb hnx)))
   have hm:=Whole.made wr 167 #[.int .i64 x.kind,.string ⟨x.key.toArray⟩,.int .i64 x.at_,.int .i64 x.size]
   have hg1:=Za wr (.cells #[.int .i64 x.kind,.string ⟨x.key.toArray⟩,.int .i64 x.at_,.int .i64 x.size] 167)
   obtain ⟨W1,hW1⟩:∃ y,wr.alloc (.cells #[.int .i64 x.kind,.string ⟨x.key.toArray⟩,.int .i64 x.at_,.int .i64 x.size] 167)=y:=⟨_,rfl⟩
   rw [hW1] at hm hg1
   have m0:=hm.cell 0
   have m1:=hm.cell 1
   have m2:=hm.cell 2
   have m3:=hm.cell 3
   simp only [Gt] at m0 m1 m2 m3
   have HM1:=hid (And.intro (Zd HO.out hg1) (Below.trans HG.out (hg1.mono HG.out.size)))
   clear hc hx hb htk hm hg1 hax hnx hrow hrl hpb
   go_wp2_with (fail)
   clear hW1 m0 m1 m2 m3
   refine (Zsx x W1 (by have:=HQ.out.2.2.2;omega)).mono ?_
   rintro e w3 ⟨A3,c3',rfl,ho3,hg3⟩
   have H3:=hid (And.intro ho3 (And.intro (Zd HM1.out.1 hg3) (Below.trans HM1.out.2 (hg3.mono HM1.out.2.size))))
   clear ho3 hg3 HM1
   go_wp2_with (fail)
   refine (Zbu A3 (7+x.key.length) c3' (bodyH x) w3 (Sl.owned H3.out.1) (by unfold maxLen;have:=HQ.out.2.2.2;omega)).mono ?_
   rintro e w4 ⟨A4,m4,c4,rfl,ho4,hg4⟩
   have hg4:Grows w3 w4:=hg4
   have hs4:=Sl.owned ho4
   have HL4:=hid hs4.len
   have H4:=hid (And.intro hs4 (And.intro (Zd H3.out.2.1 hg4) (Below.trans H3.out.2.2 (hg4.mono H3.out.2.2.size))))
   obtain ⟨k4,hk4⟩:∃ k,m+m4=k:=⟨_,rfl⟩
   have HK:=hid hk4
   clear ho4 hs4 hg4 H3 hk4
   go_wp2_with (first
    | (at_builtin
       refine Zbo isSl_bytes isSl_bytes rfl (.tmp 22) (.tmp 25) rfl (base:=w.heap.size) rfl H4.out.2.1 rfl H4.out.1 k4 HK.out (by have h1:=HK.out;have h2:=HM.out;have h3:=HL4.out;have h4:=HQ.out.2.1;have h5:=HQ.out.2.2.1;omega) H4.out.2.2.size ?_
       intro A5 c5 w5 ho5 hb5 hs5
       have H5:=hid (And.intro ho5 (Below.trans H4.out.2.2 hb5))
       clear ho5 hb5 hs5)
    | fail)
   go_roundw
   case rel=>exact ⟨j+1,A5,k4,c5,by omega,by go_num,rfl,hid (by rw [HQ.out.1,List.length_append,←HK.out,HM.out,HL4.out]),hid (by rw [HQ.out.1];exact H5.out.1),hid H5.out.2⟩
   case measure=>simp [intOf];omega
  ·obtain rfl:j=n:=by omega
   have hall:l.take j=l:=List.take_of_length_le (by rw [HLE.out];exact Nat.le_refl _)
   have hrl:(rowsH l).length≤79*j:=by
    have:=Ziu (l:=l) HAL.out
    rw [HLE.out] at this
    exact this
   rw [hall] at HM HO
   have HML:=hid (And.intro HM.out hrl)
   clear hall hrl
   go_wp2_with (fail)
   refine (Zlg (j:Int) size B m cb (rowsH l) wr (Sl.owned HO.out) (by unfold maxLen;have:=HML.out;omega)).mono ?_
   rintro e w3 ⟨A3,c3,rfl,ho3,hg3⟩
   have H3:=hid (And.intro (Sl.owned ho3) (And.intro (Zd HO.out hg3) (Below.trans HG.out (hg3.mono HG.out.size))))
   clear ho3 hg3 HO HG
   go_wp2_with (fail)
   refine (Zbu A3 13 c3 _ w3 H3.out.1 (by unfold maxLen;omega)).mono ?_
   rintro e w4 ⟨A4,m4,c4,rfl,ho4,hg4⟩
   have hg4:Grows w3 w4:=hg4
   have hs4:=Sl.owned ho4
   have HL4:=hid (show m4=21 by have:=hs4.len;rw [Yd (Zc7 _ _ _),Zh,Ju] at this;omega)
   have H4:=hid (And.intro hs4 (And.intro (Zd H3.out.2.1 hg4) (Below.trans H3.out.2.2 (hg4.mono H3.out.2.2.size))))
   obtain ⟨k4,hk4⟩:∃ k,m+m4=k:=⟨_,rfl⟩
   have HK:=hid hk4
   clear ho4 hs4 hg4 H3 hk4
   go_wp2_with (first
    | (at_builtin
       refine Zbo isSl_bytes isSl_bytes rfl (.tmp 28) (.tmp 34) rfl (base:=w.heap.size) rfl H4.out.2.1 rfl H4.out.1 k4 HK.out (by have h1:=HK.out;have h2:=HML.out;have h3:=HL4.out;omega) H4.out.2.2.size ?_
       intro A5 c5 w5 ho5 hb5 hs5
       have H5:=hid (And.intro ho5 (Below.trans H4.out.2.2 hb5))
       clear ho5 hb5 hs5)
    | fail)
   go_ret
   have hput:putH l size=rowsH l++putB (lastB (j:Int) size (rowsH l)):=by
    rw [Zis HRO.out.1 HRO.out.2,putL_append,putL,putL,List.append_nil,HLE.out]
    rfl
   refine ⟨A5,k4,c5,rfl,?_,?_,H5.out.2⟩
   ·rw [hput,List.length_append,Yd (Zc7 _ _ _),Zh,Ju,←HK.out,HML.out.1,HL4.out]
   ·rw [hput]
    exact H5.out.1
end Go.Proofs.YtkelafkbmnjpeaaGreat
set_option maxHeartbeats 4000000
set_option maxRecDepth 100000
namespace Go.Proofs.YtkelafkbmnjpeaaGreat
open Go.Lib (hid)
open Go.RowKit
attribute [local irreducible] wpF
theorem Ze3 {fn:Func} {p:Tmp} (h:fn.results=#[.cell p 167]) (tmps:Array Value) (w:World) (g:Nat) (t:TypeId) (u0 u1 u2 u3:Value)
 (hp:tmps.getD p undef=.pointer (some ⟨g,0,none⟩)) (hg:Whole w g t #[u0,u1,u2,u3]) :
 (results fn tmps).run Tryz.prog w=.ok (.agg #[u0,u1,u2,u3]) w:=by
 have hp':tmps[p]?.getD undef=.pointer (some ⟨g,0,none⟩):=by simpa using hp
 have hi:(Tryz.prog.info? 167).map (·.size)=some 4:=by kernel_rfl
 simp [results,h,hp',asAddr,run_loadVar_row w g t 167 #[u0,u1,u2,u3] (0,0) _ hg Tryz.underlying167 rfl hi]
theorem Zmu (A:Option Addr) (n c:Nat) (bs:List UInt8) (w:World) (hs:Sl w A n c bs) (hn:n≤1000000) :
 Calls Tryz.prog 231 #[.slice A n c] w fun e w'=>e=.returned (htV (toldH bs))∧Grows w w':=by
 have hlen:=hs.len
 have hcap:=hs.cap
 have hm:=Whole.made w 167 #[.int .i64 0,.string ⟨#[]⟩,.int .i64 0,.int .i64 0]
 have hg:=Za w (.cells #[.int .i64 0,.string ⟨#[]⟩,.int .i64 0,.int .i64 0] 167)
 obtain ⟨W1,hW1⟩:∃ y,w.alloc (.cells #[.int .i64 0,.string ⟨#[]⟩,.int .i64 0,.int .i64 0] 167)=y:=⟨_,rfl⟩
 rw [hW1] at hm hg
 have HS:=hid (hs.grow hg)
 have HM:=hid hm
 have HG:=hid hg
 have HWW:=hid hW1
 have f0:=hm.free 0
 have f1:=hm.free 1
 have f2:=hm.free 2
 have f3:=hm.free 3
 have z0:=hm.cell 0
 have z1:=hm.cell 1
 have z2:=hm.cell 2
 have z3:=hm.cell 3
 simp only [Gt] at z0 z1 z2 z3
 clear hs hm hg
 by_cases h7:n < 7
 ·have h7':(n:Int) < 7:=by omega
  have HT:=hid (show toldH bs=Ht.none by unfold toldH;rw [if_pos (by omega)])
  clear h7
  go_enter Tryz.func231,Tryz.ntmps231
  go_wp2_with (first | rw [hW1] | fail)
  refine bodyPost_ret (Ze3 rfl _ _ w.heap.size _ _ _ _ _ rfl (show Whole _ _ _ #[.int .i64 0,.string ⟨#[]⟩,.int .i64 0,.int .i64 0] from (((HM.out.put 0 _).put 1 _).put 2 _).put 3 _)) rfl ?_
  exact ⟨by rw [HT.out];rfl,(((HG.out.setCell (p:=⟨w.heap.size,0,none⟩) (Nat.le_refl _) _).setCell (p:=⟨w.heap.size,1,none⟩) (Nat.le_refl _) _).setCell (p:=⟨w.heap.size,2,none⟩) (Nat.le_refl _) _).setCell (p:=⟨w.heap.size,3,none⟩) (Nat.le_refl _) _⟩
 have h7':¬ (n:Int) < 7:=by omega
 obtain ⟨ad,rfl⟩:∃ ad,A=some ad:=by
  rcases A with _ | ad
  ·have:=HS.out.bare rfl;omega
  ·exact ⟨ad,rfl⟩
 have hp0:=HS.out.first (k:=1) (by omega)
 have hp1:=(HS.out.part (k:=1) (m:=5) (by omega) (by omega) (by omega))
 have hp5:=(HS.out.part (k:=5) (m:=7) (by omega) (by omega) (by omega))
 rw [show 5 - 1=4 from rfl] at hp1
 rw [show 7 - 5=2 from rfl] at hp5
 obtain ⟨x0,hx0⟩:∃ x,valB (bs.take 1)=x:=⟨_,rfl⟩
 obtain ⟨x1,hx1⟩:∃ x,valB ((bs.take 5).drop 1)=x:=⟨_,rfl⟩
 obtain ⟨x2,hx2⟩:∃ x,valB ((bs.take 7).drop 5)=x:=⟨_,rfl⟩
 obtain ⟨ks,hks⟩:∃ x,bs.drop 7=x:=⟨_,rfl⟩
 have HT:=hid (show toldH bs=⟨x0,ks,x1,x2⟩ by unfold toldH;rw [if_neg (by omega),hx0,hx1,hx2,hks])
 have HN0:=hid (fun w' (hC:Grows W1 w')=>hx0 ▸ Zbw _ 1 c _ w' (hp0.grow hC) (by omega))
 have HN1:=hid (fun w' (hC:Grows W1 w')=>hx1 ▸ Zbw _ 4 (c - 1) _ w' (hp1.grow hC) (by omega))
 have HN2:=hid (fun w' (hC:Grows W1 w')=>hx2 ▸ Zbw _ 2 (c - 5) _ w' (hp5.grow hC) (by omega))
 have k1:¬ c=1:=by omega
 have k5:¬ c=5:=by omega
 have i1:(1:Int)≤(c:Int):=by omega
 have i5:(5:Int)≤(c:Int):=by omega
 have i7:(7:Int)≤(c:Int):=by omega
 have j7:(7:Int)≤(n:Int):=by omega
 have jc:(n:Int)≤(c:Int):=by omega
 have HCAP:=hid (And.intro hlen (And.intro hcap h7))
 obtain ⟨r7,hr7⟩:∃ r7,n - 7=r7:=⟨_,rfl⟩
 clear hp0 hp1 hp5 hx0 hx1 hx2 hlen hcap h7
 by_cases hc7:c=7
 ·have HKS:=hid (fun w' (hC:Grows W1 w')=>show Sl w' (some ad) r7 (c - 7) ks from by
   have h1:=HCAP.out
   have e:ks=[]:=by rw [←hks];exact List.drop_eq_nil_of_le (by omega)
   have e2:r7=0:=by omega
   rw [e,e2]
   exact ⟨Bytes.nil _ _ _,Nat.zero_le _,fun h=>by cases h⟩)
  clear hks
  go_enter Tryz.func231,Tryz.ntmps231
  go_wp2_with (first | rw [hW1] | fail)
  clear hW1
  refine Ze (E:=Grows) 12 [Zb (.slice (some ad) n c),Zb (.slice (some ad) 1 c),Zb (.int .i64 x0),Zb (.slice (some ad) n c),Zb (.slice (some ad) r7 (c - 7)),Zb (.string ⟨ks.toArray⟩),Zb (.slice (some ad) n c),Zb (.slice (some (ad.add 1)) 4 (c - 1)),Zb (.int .i64 x1),Zb (.slice (some ad) n c),Zb (.slice (some (ad.add 5)) 2 (c - 5)),Zb (.int .i64 x2)] mixed (by kernel_rfl) (fun _ _ _=>Grows.trans) (Zf _) ?_
  simp only [List.take_succ_cons,List.take_zero,List.drop_succ_cons,List.drop_zero]
  iterate 2
   refine f_val _ (by rfl) ?_ ?_
   ·intro w' hC;clear hC;go_simp
   simp only [Pu]
  refine Z7 283 #[.slice (some ad) 1 c] (.int .i64 x0) (by rfl) (by intro w' hC;clear hC;go_simp) ?_ ?_
  ·intro w' hC hks;exact (HN0.out w' hC).mono fun e w'' hh=>⟨hh.1,hh.2 ▸ Below.refl _ _⟩
  simp only [Pu]
  iterate 2
   refine f_val _ (by rfl) ?_ ?_
   ·intro w' hC;clear hC;go_simp
   simp only [Pu]
  refine Zl2 _ (by rfl) ?_ ?_
  ·intro w' hC hks;exact Zdt rfl rfl (HKS.out w' hC)
  simp only [Pu]
  iterate 2
   refine f_val _ (by rfl) ?_ ?_
   ·intro w' hC;clear hC;go_simp
   simp only [Pu]
  refine Z7 283 #[.slice (some (ad.add 1)) 4 (c - 1)] (.int .i64 x1) (by rfl) (by intro w' hC;clear hC;go_simp) ?_ ?_
  ·intro w' hC hks;exact (HN1.out w' hC).mono fun e w'' hh=>⟨hh.1,hh.2 ▸ Below.refl _ _⟩
  simp only [Pu]
  iterate 2
   refine f_val _ (by rfl) ?_ ?_
   ·intro w' hC;clear hC;go_simp
   simp only [Pu]
  refine Z7 283 #[.slice (some (ad.add 5)) 2 (c - 5)] (.int .i64 x2) (by rfl) (by intro w' hC;clear hC;go_simp) ?_ ?_
  ·intro w' hC hks;exact (HN2.out w' hC).mono fun e w'' hh=>⟨hh.1,hh.2 ▸ Below.refl _ _⟩
  simp only [Pu]
  refine Zu ?_
  intro w2 hC hks
  have HCw2:=hid hC
  clear hC hks
  have hm2:=HCw2.out.whole HM.out
  have q0:=hm2.free 0
  have q1:=hm2.free 1
  have q2:=hm2.free 2
  have q3:=hm2.free 3
  have y0:=hm2.cell 0
  have y1:=hm2.cell 1
  have y2:=hm2.cell 2
  have y3:=hm2.cell 3
  simp only [Gt] at y0 y1 y2 y3
  have HM2:=hid hm2
  clear hm2 f0 f1 f2 f3 z0 z1 z2 z3
  go_wp2_with (fail)
  refine bodyPost_ret (Ze3 rfl _ _ w.heap.size _ _ _ _ _ rfl (show Whole _ _ _ #[.int .i64 x0,.string ⟨ks.toArray⟩,.int .i64 x1,.int .i64 x2] from (((HM2.out.put 0 _).put 1 _).put 2 _).put 3 _)) rfl ?_
  exact ⟨by rw [HT.out];rfl,((((HG.out.trans HCw2.out).setCell (p:=⟨w.heap.size,0,none⟩) (Nat.le_refl _) _).setCell (p:=⟨w.heap.size,1,none⟩) (Nat.le_refl _) _).setCell (p:=⟨w.heap.size,2,none⟩) (Nat.le_refl _) _).setCell (p:=⟨w.heap.size,3,none⟩) (Nat.le_refl _) _⟩
 ·have HKS:=hid (fun w' (hC:Grows W1 w')=>show Sl w' (some (ad.add 7)) r7 (c - 7) ks from by
   have h1:=HCAP.out
   have h0:=(HS.out.grow hC).part (k:=7) (m:=n) (by omega) (by omega) hc7
   rw [List.take_of_length_le (by omega),hr7,hks] at h0
   exact h0)
  clear hks
  go_enter Tryz.func231,Tryz.ntmps231
  go_wp2_with (first | rw [hW1] | fail)
  clear hW1
  refine Ze (E:=Grows) 12 [Zb (.slice (some ad) n c),Zb (.slice (some ad) 1 c),Zb (.int .i64 x0),Zb (.slice (some ad) n c),Zb (.slice (some (ad.add 7)) r7 (c - 7)),Zb (.string ⟨ks.toArray⟩),Zb (.slice (some ad) n c),Zb (.slice (some (ad.add 1)) 4 (c - 1)),Zb (.int .i64 x1),Zb (.slice (some ad) n c),Zb (.slice (some (ad.add 5)) 2 (c - 5)),Zb (.int .i64 x2)] mixed (by kernel_rfl) (fun _ _ _=>Grows.trans) (Zf _) ?_
  simp only [List.take_succ_cons,List.take_zero,List.drop_succ_cons,List.drop_zero]
  iterate 2
   refine f_val _ (by rfl) ?_ ?_
   ·intro w' hC;clear hC;go_simp
   simp only [Pu]
  refine Z7 283 #[.slice (some ad) 1 c] (.int .i64 x0) (by rfl) (by intro w' hC;clear hC;go_simp) ?_ ?_
  ·intro w' hC hks;exact (HN0.out w' hC).mono fun e w'' hh=>⟨hh.1,hh.2 ▸ Below.refl _ _⟩
  simp only [Pu]
  iterate 2
   refine f_val _ (by rfl) ?_ ?_
   ·intro w' hC;clear hC;go_simp
   simp only [Pu]
  refine Zl2 _ (by rfl) ?_ ?_
  ·intro w' hC hks;exact Zdt rfl rfl (HKS.out w' hC)
  simp only [Pu]
  iterate 2
   refine f_val _ (by rfl) ?_ ?_
   ·intro w' hC;clear hC;go_simp
   simp only [Pu]
  refine Z7 283 #[.slice (some (ad.add 1)) 4 (c - 1)] (.int .i64 x1) (by rfl) (by intro w' hC;clear hC;go_simp) ?_ ?_
  ·intro w' hC hks;exact (HN1.out w' hC).mono fun e w'' hh=>⟨hh.1,hh.2 ▸ Below.refl _ _⟩
  simp only [Pu]
  iterate 2
   refine f_val _ (by rfl) ?_ ?_
   ·intro w' hC;clear hC;go_simp
   simp only [Pu]
  refine Z7 283 #[.slice (some (ad.add 5)) 2 (c - 5)] (.int .i64 x2) (by rfl) (by intro w' hC;clear hC;go_simp) ?_ ?_
  ·intro w' hC hks;exact (HN2.out w' hC).mono fun e w'' hh=>⟨hh.1,hh.2 ▸ Below.refl _ _⟩
  simp only [Pu]
  refine Zu ?_
  intro w2 hC hks
  have HCw2:=hid hC
  clear hC hks
  have hm2:=HCw2.out.whole HM.out
  have q0:=hm2.free 0
  have q1:=hm2.free 1
  have q2:=hm2.free 2
  have q3:=hm2.free 3
  have y0:=hm2.cell 0
  have y1:=hm2.cell 1
  have y2:=hm2.cell 2
  have y3:=hm2.cell 3
  simp only [Gt] at y0 y1 y2 y3
  have HM2:=hid hm2
  clear hm2 f0 f1 f2 f3 z0 z1 z2 z3
  go_wp2_with (fail)
  refine bodyPost_ret (Ze3 rfl _ _ w.heap.size _ _ _ _ _ rfl (show Whole _ _ _ #[.int .i64 x0,.string ⟨ks.toArray⟩,.int .i64 x1,.int .i64 x2] from (((HM2.out.put 0 _).put 1 _).put 2 _).put 3 _)) rfl ?_
  exact ⟨by rw [HT.out];rfl,((((HG.out.trans HCw2.out).setCell (p:=⟨w.heap.size,0,none⟩) (Nat.le_refl _) _).setCell (p:=⟨w.heap.size,1,none⟩) (Nat.le_refl _) _).setCell (p:=⟨w.heap.size,2,none⟩) (Nat.le_refl _) _).setCell (p:=⟨w.heap.size,3,none⟩) (Nat.le_refl _) _⟩
theorem Zhx (A:Option Addr) (n c:Nat) (xs:List UInt8) (B:Option Addr) (m d:Nat) (ys:List UInt8) (w:World) (hx:Sl w A n c xs) (hy:Sl w B m d ys) :
 Calls Tryz.prog 155 #[.slice A n c,.slice B m d] w fun e w'=>e=.returned (.bool (decide (xs=ys)))∧Grows w w':=by
 have e1:=Z8 hx
 have e2:=Z8 hy
 clear hx hy
 go_enter Tryz.func155,Tryz.ntmps155
 go_wp2_with (fail)
 go_ret
 exact ⟨Zy (by rw [Bool.eq_iff_iff];simp),Below.refl _ _⟩
theorem infoHt:(Tryz.prog.info? 167).map (fun i=>(i.zero,i.size,i.bytes))=some (some (.agg #[.int .i64 0,.string ⟨#[]⟩,.int .i64 0,.int .i64 0]),4,40):=by kernel_rfl
theorem Zsw {t:TypeId} {z:Value} {a b:Nat} (h:(Tryz.prog.info? t).map (fun i=>(i.zero,i.size,i.bytes))=some (some z,a,b)):∃ i,Tryz.prog.info? t=some i∧i.zero=some z∧i.size=a∧i.bytes=b:=by
 cases h1:Tryz.prog.info? t with
 | none=>rw [h1] at h;cases h
 | some i =>
   rw [h1] at h
   simp only [Option.map_some,Option.some.injEq,Prod.mk.injEq] at h
   exact ⟨i,rfl,h.1,h.2.1,h.2.2⟩
theorem Zlf {α:Type} (enc:α→List Value) (l:List α) (x:α):(l++[x]).flatMap enc=l.flatMap enc++enc x:=by simp
theorem Zvd (A:Option Addr) (n c:Nat) (ts:List It) (w:World) (h:Items w A n c ts) (hn:n≤1000000) (hb:∀ t∈ts,t.2.2.length≤1000000) :
 Calls Tryz.prog 153 #[.slice A n c] w fun e w'=>∃ A' c',e=.returned (.slice A' n c') ∧
  w'.ownsRow w.heap.size 167 4 (.slice A' n c') n ((ts.map fun t=>toldH t.2.2).flatMap htE)∧Grows w w':=by
 have HX:=hid h
 have hlen:=h.len
 have HBB:=hid hb
 clear h hb
 obtain ⟨i0,hi0,hz0,hz1,hz2⟩:=Zsw infoHt
 have HI:=hid (And.intro hi0 (And.intro hz0 (And.intro hz1 hz2)))
 clear hi0 hz0 hz1 hz2
 go_enter Tryz.func153,Tryz.ntmps153
 go_wp2_with (fail)
 go_loopw [3,8] (fun b i wr=>∃ (j:Nat) (B:Option Addr) (cb:Nat),j≤n∧i=.int .i64 (j:Nat)∧b=.slice B j cb∧Hid (wr.ownsRow w.heap.size 167 4 (.slice B j cb) j (((ts.take j).map fun t=>toldH t.2.2).flatMap htE))∧Hid (Below w.heap.size w wr)) (fun _ i _=>n - (intOf i).toNat)
 case atStart=>exact ⟨0,none,0,by omega,rfl,rfl,hid (World.ownsRow_nil _ _ _ _),hid (Below.refl _ _)⟩
 case round =>
  obtain ⟨j,B,cb,hj,rfl,rfl,HO,HG⟩:=hrel
  by_cases hlt:j < n
  ·obtain ⟨ad,SB,sm,sd,rfl,hc0,hc1,hc2,hsl⟩:=(Items.grow HG.out HX.out).spot hlt
   obtain ⟨t,ht⟩:∃ t,ts[j]?=some t:=⟨_,List.getElem?_eq_getElem (by omega)⟩
   have hgd:ts.getD j (0,0,[])=t:=by rw [List.getD_eq_getElem?_getD,ht];rfl
   rw [hgd] at hc0 hc1 hsl
   have k0:(0:Int)≤(j:Int):=by omega
   have k1:(j:Int) < (n:Int):=by omega
   have c0:=hc0 _ (Below.refl _ _)
   have c1:=hc1 _ (Below.refl _ _)
   have c2:=hc2 _ (Below.refl _ _)
   have htk:ts.take (j+1)=ts.take j++[t]:=by rw [List.take_add_one,ht];rfl
   have hsm:sm≤1000000:=by
    have h1:=HBB.out t (List.mem_of_getElem? ht)
    rw [hsl.len] at h1
    exact h1
   have hrow:((ts.take (j+1)).map fun t=>toldH t.2.2).flatMap htE=(((ts.take j).map fun t=>toldH t.2.2).flatMap htE)++htE (toldH t.2.2):=by
    rw [htk,List.map_append,List.map_cons,List.map_nil,Zlf]
   have HQ:=hid (And.intro hrow (And.intro hsl hsm))
   obtain ⟨x,y,bs⟩:=t
   dsimp only at c0 c1 HQ
   have hm:=Whole.made wr 212 #[.int .i64 (x:Nat),.int .i64 (y:Nat),.slice SB sm sd]
   have hg1:=Za wr (.cells #[.int .i64 (x:Nat),.int .i64 (y:Nat),.slice SB sm sd] 212)
   obtain ⟨W1,hW1⟩:∃ z,wr.alloc (.cells #[.int .i64 (x:Nat),.int .i64 (y:Nat),.slice SB sm sd] 212)=z:=⟨_,rfl⟩
   rw [hW1] at hm hg1
   have m0:=hm.cell 0
   have m1:=hm.cell 1
   have m2:=hm.cell 2
   simp only [Gt] at m0 m1 m2
   have HM1:=hid (And.intro (Zd HO.out hg1) (And.intro (Below.trans HG.out (hg1.mono HG.out.size)) (HQ.out.2.1.grow hg1)))
   clear hc0 hc1 hc2 hsl htk hm hg1 hrow ht hgd
   go_wp2_with (fail)
   clear hW1 m0 m1 m2
   refine (Zmu SB sm sd bs W1 HM1.out.2.2 HQ.out.2.2).mono ?_
   rintro e w3 ⟨rfl,hg3⟩
   obtain ⟨hh,hhh⟩:∃ z,toldH bs=z:=⟨_,rfl⟩
   rw [hhh] at HQ ⊢
   obtain ⟨hk,hkey,ha,hsz⟩:=hh
   show _
   unfold htV
   have hg4:=Za w3 (.cells #[.int .i64 hk,.string ⟨hkey.toArray⟩,.int .i64 ha,.int .i64 hsz] 167)
   have hm4:=Whole.made w3 167 #[.int .i64 hk,.string ⟨hkey.toArray⟩,.int .i64 ha,.int .i64 hsz]
   have H3:=hid (And.intro (Zd HM1.out.1 (hg3.trans hg4)) (Below.trans HM1.out.2.1 ((hg3.trans hg4).mono HM1.out.2.1.size)))
   have HM4:=hid hm4
   clear hg3 hg4 hm4 hhh HM1
   go_wp2_with (first
    | (at_builtin
       refine Zhc rfl (.tmp 12) (.tmp 16) 78 rfl w.heap.size 167 i0 (.agg #[.int .i64 0,.string ⟨#[]⟩,.int .i64 0,.int .i64 0]) 4 40 Tryz.underlying78 HI.out.1 HI.out.2.1 HI.out.2.2.1 HI.out.2.2.2 rfl (by omega)
        rfl H3.out.1 (A:=some ⟨w3.heap.size,0,none⟩) (m:=1) (c:=1) rfl (Rs.lit htL HM4.out [(⟨hk,hkey,ha,hsz⟩:Ht)] rfl (n:=1) rfl).row (fun h=>by cases h) (fun u hu=>Zmv ⟨hk,hkey,ha,hsz⟩ u (by simpa using hu)) (j+1) rfl (by unfold maxLen;omega) (by omega) H3.out.2.size ?_
       intro A5 c5 w5 ho5 hg5 _
       have H5:=hid (And.intro ho5 (Zkm H3.out.2 hg5 H3.out.2.size (fun g hg=>(Zbd H3.out.1 hg).1)))
       clear ho5 hg5)
    | fail)
   go_roundw
   case rel=>exact ⟨j+1,A5,c5,by omega,by go_num,rfl,hid (by rw [HQ.out.1];simpa using H5.out.1),hid H5.out.2⟩
   case measure=>simp [intOf];omega
  ·obtain rfl:j=n:=by omega
   have hall:ts.take j=ts:=List.take_of_length_le (by omega)
   rw [hall] at HO
   have HF:=hid (And.intro HO.out HG.out)
   clear hall
   go_wp2_with (fail)
   go_ret
   exact ⟨B,cb,rfl,HF.out.1,HF.out.2⟩
end Go.Proofs.YtkelafkbmnjpeaaGreat
namespace Go.Proofs.YtkelafkbmnjpeaaGreat
open Go.Shelf
def sortHt_ren:Go.Shelf.Ren:=⟨fun | 6=>269 | 15=>181 | 14=>306 | 28=>254 | 29=>255 | 20=>315 | 21=>316 | 22=>317 | 23=>318 | 24=>319 | 25=>320 | 26=>321 | 27=>322 | 46=>324 | 47=>289 | 48=>290 | 49=>325 | 50=>326 | 57=>327 | n=>n,fun | 22=>78 | 24=>167 | 25=>244 | 3=>3 | 39=>159 | 0=>0 | 53=>41 | 55=>158 | 4=>4 | 46=>274 | 45=>273 | 50=>53 | 5=>5 | 9=>9 | 66=>299 | 70=>303 | 76=>313 | 77=>173 | n=>n,fun | n=>n⟩
theorem sortHt:Go.Proofs.SlLaysF0.n6 Tryz.prog sortHt_ren:={
  mixed:=by kernel_rfl
  f6:=⟨Tryz.f269.name,by decide,Tryz.func269.trans (congrArg some (by kernel_rfl))⟩
  f14:=⟨Tryz.f306.name,by decide,Tryz.func306.trans (congrArg some (by kernel_rfl))⟩
  f15:=Tryz.func181.trans (congrArg some (by kernel_rfl))
  f20:=⟨Tryz.f315.name,by decide,Tryz.func315.trans (congrArg some (by kernel_rfl))⟩
  f21:=⟨Tryz.f316.name,by decide,Tryz.func316.trans (congrArg some (by kernel_rfl))⟩
  f22:=⟨Tryz.f317.name,by decide,Tryz.func317.trans (congrArg some (by kernel_rfl))⟩
  f23:=⟨Tryz.f318.name,by decide,Tryz.func318.trans (congrArg some (by kernel_rfl))⟩
  f24:=⟨Tryz.f319.name,by decide,Tryz.func319.trans (congrArg some (by kernel_rfl))⟩
  f25:=⟨Tryz.f320.name,by decide,Tryz.func320.trans (congrArg some (by kernel_rfl))⟩
  f26:=⟨Tryz.f321.name,by decide,Tryz.func321.trans (congrArg some (by kernel_rfl))⟩
  f27:=⟨Tryz.f322.name,by decide,Tryz.func322.trans (congrArg some (by kernel_rfl))⟩
  f28:=Tryz.func254.trans (congrArg some (by kernel_rfl))
  f29:=Tryz.func255.trans (congrArg some (by kernel_rfl))
  f46:=⟨Tryz.f324.name,by decide,Tryz.func324.trans (congrArg some (by kernel_rfl))⟩
  f47:=Tryz.func289.trans (congrArg some (by kernel_rfl))
  f48:=Tryz.func290.trans (congrArg some (by kernel_rfl))
  f49:=⟨Tryz.f325.name,by decide,Tryz.func325.trans (congrArg some (by kernel_rfl))⟩
  f50:=⟨Tryz.f326.name,by decide,Tryz.func326.trans (congrArg some (by kernel_rfl))⟩
  f57:=⟨Tryz.f327.name,by decide,Tryz.func327.trans (congrArg some (by kernel_rfl))⟩
  t0:=Tryz.underlying0
  a0:=Tryz.isAgg0
  z0:=Tryz.sizeOf0
  v0:=Tryz.zeroValue0
  t3:=Tryz.underlying3
  a3:=Tryz.isAgg3
  z3:=Tryz.sizeOf3
  v3:=Tryz.zeroValue3
  t4:=Tryz.underlying4
  a4:=Tryz.isAgg4
  z4:=Tryz.sizeOf4
  v4:=Tryz.zeroValue4
  t5:=Tryz.underlying5
  a5:=Tryz.isAgg5
  z5:=Tryz.sizeOf5
  v5:=Tryz.zeroValue5
  t9:=Tryz.underlying9
  a9:=Tryz.isAgg9
  z9:=Tryz.sizeOf9
  v9:=Tryz.zeroValue9
  t22:=Tryz.underlying78
  a22:=Tryz.isAgg78
  z22:=Tryz.sizeOf78
  v22:=Tryz.zeroValue78
  t25:=Tryz.underlying244
  a25:=Tryz.isAgg244
  z25:=Tryz.sizeOf244
  v25:=Tryz.zeroValue244
  t39:=Tryz.underlying159
  a39:=Tryz.isAgg159
  z39:=Tryz.sizeOf159
  v39:=Tryz.zeroValue159
  t45:=Tryz.underlying273
  a45:=Tryz.isAgg273
  z45:=Tryz.sizeOf273
  v45:=Tryz.zeroValue273
  t46:=Tryz.underlying274
  a46:=Tryz.isAgg274
  z46:=Tryz.sizeOf274
  v46:=Tryz.zeroValue274
  t50:=Tryz.underlying53
  a50:=Tryz.isAgg53
  z50:=Tryz.sizeOf53
  v50:=Tryz.zeroValue53
  t53:=Tryz.underlying41
  a53:=Tryz.isAgg41
  z53:=Tryz.sizeOf41
  v53:=Tryz.zeroValue41
  t55:=Tryz.underlying158
  a55:=Tryz.isAgg158
  z55:=Tryz.sizeOf158
  v55:=Tryz.zeroValue158
  t66:=Tryz.underlying299
  a66:=Tryz.isAgg299
  z66:=Tryz.sizeOf299
  v66:=Tryz.zeroValue299
  t70:=Tryz.underlying303
  a70:=Tryz.isAgg303
  z70:=Tryz.sizeOf303
  v70:=Tryz.zeroValue303
  t76:=Tryz.underlying313
  a76:=Tryz.isAgg313
  z76:=Tryz.sizeOf313
  v76:=Tryz.zeroValue313
  t77:=Tryz.underlying173
  a77:=Tryz.isAgg173
  z77:=Tryz.sizeOf173
  v77:=Tryz.zeroValue173 }
end Go.Proofs.YtkelafkbmnjpeaaGreat
