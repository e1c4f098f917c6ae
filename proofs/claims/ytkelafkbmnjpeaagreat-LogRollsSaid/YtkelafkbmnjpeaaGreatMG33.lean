/-
  Texts that the statements lean on, one behind the other.
-/
import Derived.Test.YtkelafkbmnjpeaaGreatMG32
import Derived.Test.YtkelafkbmnjpeaaGreatMG30
import Derived.Test.YtkelafkbmnjpeaaGreatMG31
import Derived.Test.YtkelafkbmnjpeaaGreatAll
import Derived.Test.YtkelafkbmnjpeaaGreatMG22
import Derived.Test.YtkelafkbmnjpeaaGreatMG10
import Derived.Test.YtkelafkbmnjpeaaGreatMG21
set_option maxHeartbeats 8000000
set_option maxRecDepth 100000
namespace Go.Proofs.YtkelafkbmnjpeaaGreat
open Go.Lib (hid)
open Go.RowKit Go.Shelf Go.Maps Go.Sort Go.WideMaps
theorem Zpi {hs xs l':List Ht} (hr:Zbc hs) (hn:(xs.map (·.key)).Nodup) (hm:∀ h,h∈xs↔h∈hs) (hp:l'.Perm xs) (hs':l'.Pairwise fun x y=>bytesBefore y.key x.key=false):l'=hs:=by
 refine rise_same ?_ hr fun h=>(hp.mem_iff).trans (hm h)
 have h1:(l'.map (·.key)).Nodup:=(hp.map _).nodup_iff.2 hn
 have h2:l'.Pairwise fun x y=>x.key≠y.key:=List.pairwise_map.1 h1
 exact (hs'.and h2).imp fun ⟨a,b⟩=>hbef_total a fun e=>b e.symm
theorem Zhw (b nn:Nat) (hs:List Ht) (w:World) (B1:Nat) (hbx:Boxed w B1 238 (.map (some b))) (hown:OwnsH w b nn hs) (hrise:Zbc hs) (hk:hs.length≤1000000) :
 Calls Tryz.prog 207 #[.func (.func 270) #[] #[.pointer (some ⟨B1,0,none⟩)],.func (.func 209) #[] #[]] w fun e w' =>
  ∃ A c,e=.returned (.slice A hs.length c)∧w'.ownsRow w.heap.size 167 4 (.slice A hs.length c) hs.length (hs.flatMap htE)∧Grows w w':=by
 have hbl:b < w.heap.size:=World.ownsMap.lt hown
 have hB1:=hbx.lt
 have HCO:=hid (Zms 270 #[.pointer (some ⟨B1,0,none⟩)] (fun k=>k=B1∨k=b) hs.length hk _ w (fun n=>Zle n B1 b nn hs w hbx hown hrise)
  (fun k hk=>by rcases hk with rfl | rfl <;> assumption) (enters_of Tryz.func270 (by kernel_rfl) rfl))
 have HRI:=hid hrise
 clear hbx hown hrise hbl hB1
 go_enter Tryz.func207,Tryz.ntmps207
 go_wp2_with (fail)
 refine HCO.out.mono ?_
 rintro e w1 ⟨A,c,xs,⟨hnd,hme,hxl⟩,rfl,ho1,hb1⟩
 have HS:=hid (Zs0 w.heap.size A xs.length c xs w1 ho1 (by omega))
 have HX:=hid (And.intro hnd (And.intro hme hb1))
 clear hnd hme hxl ho1 hb1
 go_wp2_with (fail)
 refine HS.out.mono ?_
 rintro e w2 ⟨rfl,l',hp,hs',ho2,hb2⟩
 have he:=Zpi HRI.out HX.out.1 HX.out.2.1 hp hs'
 subst he
 have hlen:xs.length=l'.length:=hp.length_eq.symm
 have HF:=hid (And.intro ho2 (And.intro (Below.trans HX.out.2.2 (hb2 _ (Nat.le_refl _))) hlen))
 clear hp hs' ho2 hb2 hlen
 go_wp2_with (fail)
 go_ret
 refine ⟨A,c,?_,?_,HF.out.2.1⟩
 ·show Ending.returned (.slice A xs.length c)=_
  rw [HF.out.2.2]
 ·have:=HF.out.1
  rw [HF.out.2.2] at this
  exact this
theorem Zw1 {n:List UInt8} (hn:n.length≤maxLen):keyOf Tryz.prog 9 (.string ⟨n.toArray⟩)=some (.string n):=by
 have:=keyOf_string_mk (P:=Tryz.prog) (k:=9) Tryz.underlying9 (s:=⟨n.toArray⟩) (by simpa [ByteArray.size] using hn)
 simpa using this
theorem Zvc (A:Option Addr) (n c:Nat) (l:List Fd) (w:World) (h:Fds w A n c l) (hn:n≤100000) :
 Calls Tryz.prog 137 #[.slice A n c] w fun e w'=>∃ A' c',e=.returned (.slice A' (hofP l).length c') ∧
  w'.ownsRow w.heap.size 167 4 (.slice A' (hofP l).length c') (hofP l).length ((hofP l).flatMap htE)∧Grows w w':=by
 have HX:=hid h
 have hlen:=h.len
 have hmade:=World.ownsMap_made w Tryz.prog 9 (htR (H:=Unit))
 have hg0:=Za w (.map #[] 0)
 obtain ⟨W0,hW0⟩:∃ y,w.alloc (.map #[] 0)=y:=⟨_,rfl⟩
 rw [hW0] at hmade hg0
 have HM0:=hid (And.intro hmade hg0)
 have hmk:(Instr.makeMap 238 none).run Tryz.prog w=.ok (.map (some w.heap.size)) W0:=by
  rw [←hW0]
  kernel_rfl
 clear h hmade hg0 hW0
 go_enter Tryz.func137,Tryz.ntmps137
 go_wp2_with (fail)
 go_loopw [9] (fun i wr=>∃ (j:Nat),j≤n∧i=.int .i64 (j:Nat)∧Hid (OwnsH wr w.heap.size j (hofP (l.take j)))∧Hid (Grows w wr)) (fun i _=>n - (intOf i).toNat)
 case atStart=>exact ⟨0,by omega,rfl,hid (show OwnsH W0 w.heap.size 0 [] from HM0.out.1),hid HM0.out.2⟩
 case round =>
  obtain ⟨j,hj,rfl,HO,HG⟩:=hrel
  by_cases hlt:j < n
  ·obtain ⟨ad,x,rfl,hx,hb,hc⟩:=Fds.at (HX.out.grow HG.out) hlt
   have k0:(0:Int)≤(j:Int):=by omega
   have k1:(j:Int) < (n:Int):=by omega
   obtain ⟨c0,c1,c2,c3,c4,c5,c6,c7,c8⟩:=hc _ (Below.refl _ _)
   have htk:l.take (j+1)=l.take j++[x]:=by rw [List.take_add_one,hx];rfl
   have HOF:=hid (show hofP (l.take (j+1))=if toldF x=true then hput (Zak x) (hofP (l.take j)) else hofP (l.take j) by rw [htk,Zd8])
   obtain ⟨xa,xz,xk,xs,xi,xn,xq,⟨la,ln,lc⟩,⟨ba,bn,bc⟩⟩:=x
   dsimp only at c0 c1 c2 c3 c4 c5 c6 c7 c8
   have hm:=Whole.made wr 145 #[.int .i64 xa,.int .i64 xz,.int .i64 xk,.string ⟨xs.toArray⟩,.int .i64 xi,.int .i64 xn,.int .i64 xq,.slice la ln lc,.slice ba bn bc]
   have hg1:=Za wr (.cells #[.int .i64 xa,.int .i64 xz,.int .i64 xk,.string ⟨xs.toArray⟩,.int .i64 xi,.int .i64 xn,.int .i64 xq,.slice la ln lc,.slice ba bn bc] 145)
   obtain ⟨W1,hW1⟩:∃ z,wr.alloc (.cells #[.int .i64 xa,.int .i64 xz,.int .i64 xk,.string ⟨xs.toArray⟩,.int .i64 xi,.int .i64 xn,.int .i64 xq,.slice la ln lc,.slice ba bn bc] 145)=z:=⟨_,rfl⟩
   rw [hW1] at hm hg1
   have HC:=hid (fun w' (hC:Grows W1 w')=>by
    have h1:=hC.whole hm
    exact (⟨h1.cell 0,h1.cell 1,h1.cell 2,h1.cell 3⟩:w'.cell? { block:=wr.heap.size,off:=0 }=some (.int .i64 xa)∧w'.cell? { block:=wr.heap.size,off:=1 }=some (.int .i64 xz)∧w'.cell? { block:=wr.heap.size,off:=2 }=some (.int .i64 xk)∧w'.cell? { block:=wr.heap.size,off:=3 }=some (.string ⟨xs.toArray⟩)))
   have HG1:=hid (And.intro (Zcn HO.out (hg1.block _ (World.ownsMap.lt HO.out))) (Below.trans HG.out (hg1.mono HG.out.size)))
   obtain ⟨b1,hb1⟩:∃ b,Zal xk=b:=⟨_,rfl⟩
   obtain ⟨b2,hb2⟩:∃ b,keyB xs=b:=⟨_,rfl⟩
   have H1:=hid (fun w'=>hb1 ▸ Ziv xk w')
   have H2:=hid (fun w'=>hb2 ▸ Zoc xs w')
   have HTF:=hid (show toldF ⟨xa,xz,xk,xs,xi,xn,xq,(la,ln,lc),(ba,bn,bc)⟩=(b1&&b2) by unfold toldF;dsimp only;rw [hb1,hb2])
   obtain ⟨m0,m1,m2,m3⟩:=HC.out W1 (Below.refl _ _)
   clear hm hg1 hb1 hb2 hc hb hx htk
   go_wp2_with (fail)
   clear hW1
   refine (H1.out W1).mono ?_
   rintro e w2 ⟨rfl,hg2⟩
   have HG2:=hid (And.intro hg2 (And.intro (Zcn HG1.out.1 (hg2.block _ (World.ownsMap.lt HG1.out.1))) (Below.trans HG1.out.2 (hg2.mono HG1.out.2.size))))
   clear m0 m1 m2 m3
   obtain ⟨m0,m1,m2,m3⟩:=HC.out w2 hg2
   clear hg2
   cases b1
   ·go_wp2_with (fail)
    go_roundw
    case rel=>exact ⟨j+1,by omega,by go_num,hid (by rw [HOF.out,HTF.out];exact HG2.out.2.1.mono (by omega)),hid HG2.out.2.2⟩
    case measure=>simp [intOf];omega
   go_wp2_with (fail)
   refine (H2.out w2).mono ?_
   rintro e w3 ⟨rfl,hg3⟩
   have HG3:=hid (And.intro (Zcn HG2.out.2.1 (hg3.block _ (World.ownsMap.lt HG2.out.2.1))) (Below.trans HG2.out.2.2 (hg3.mono HG2.out.2.2.size)))
   clear m0 m1 m2 m3
   obtain ⟨m0,m1,m2,m3⟩:=HC.out w3 (HG2.out.1.trans hg3)
   clear hg3
   cases b2
   ·go_wp2_with (fail)
    go_roundw
    case rel=>exact ⟨j+1,by omega,by go_num,hid (by rw [HOF.out,HTF.out];exact HG3.out.1.mono (by omega)),hid HG3.out.2⟩
    case measure=>simp [intOf];omega
   have hkx:xs.length≤64:=by
    have h1:=HTF.out
    simp only [toldF,keyB,Bool.and_eq_true,decide_eq_true_eq,Bool.and_self] at h1
    exact h1.2.2
   have hkey:=Zw1 (n:=xs) (by unfold maxLen;omega)
   clear hkx
   have hval:=Zv3 (H:=Unit) ⟨xk,xs,xa,xz⟩
   unfold htV at hval
   have hown3:=HG3.out.1
   have hjm:j < maxLen:=by unfold maxLen;omega
   go_wp2_with (first
    | (at_mapUpdate;refine wpList_mapUpdate_in _ rfl _ _ _ 238 rfl 9 _ (string_keyed Tryz.underlying9) Tryz.underlying238 _ w.heap.size j _ rfl hown3 hjm _ _ _ rfl rfl hkey _ _ hval ?_;intro w4 hown4 hturn4)
    | fail)
   have hpu:OwnsH w4 w.heap.size (j+1) (hput ⟨xk,xs,xa,xz⟩ (hofP (l.take j))):=by
    have he:=Zuy (H:=Unit) ⟨xk,xs,xa,xz⟩ (hofP (l.take j))
    unfold OwnsH
    rw [←he]
    exact hown4
   have HF:=hid (And.intro hpu (Below.grown HG3.out.2 hturn4.grown HG3.out.2.size (fun k hk=>by cases hk;exact Nat.le_refl _)))
   clear hpu hown4 hturn4 hown3
   go_roundw
   case rel=>exact ⟨j+1,by omega,by go_num,hid (by rw [HOF.out,HTF.out];exact HF.out.1),hid HF.out.2⟩
   case measure=>simp [intOf];omega
  ·obtain rfl:j=n:=by omega
   have hall:l.take j=l:=List.take_of_length_le (by omega)
   rw [hall] at HO
   have hl:=Zir l
   have hg4:=Za wr (.cells #[.map (some w.heap.size)] 238)
   have hb4:=Boxed.new wr 238 (.map (some w.heap.size))
   obtain ⟨W4,hW4⟩:∃ z,wr.alloc (.cells #[.map (some w.heap.size)] 238)=z:=⟨_,rfl⟩
   rw [hW4] at hg4 hb4
   have HS:=hid (Zhw w.heap.size j (hofP l) W4 wr.heap.size hb4 (Zcn HO.out (hg4.block _ (World.ownsMap.lt HO.out))) (Zn2 l) (by omega))
   have HG4:=hid (Below.trans HG.out (hg4.mono HG.out.size))
   have HVA:=hid (Zpj w.heap.size wr)
   rw [hW4] at HVA
   clear hall hl hg4 hb4 hW4
   go_wp2_with (fail)
   refine HVA.out.mono ?_
   rintro e w5 ⟨rfl,rfl⟩
   go_wp2_with (fail)
   refine HS.out.mono ?_
   rintro e w6 ⟨A6,c6,rfl,ho6,hg6⟩
   have H6:=hid (And.intro ho6 hg6)
   clear ho6 hg6
   go_wp2_with (fail)
   go_ret
   exact ⟨A6,c6,rfl,Zg H6.out.1 HG4.out.size,Below.trans HG4.out (H6.out.2.mono HG4.out.size)⟩
end Go.Proofs.YtkelafkbmnjpeaaGreat
set_option maxHeartbeats 8000000
set_option maxRecDepth 100000
namespace Go.Proofs.YtkelafkbmnjpeaaGreat
open Go.Lib (hid)
open Go.RowKit
attribute [local irreducible] wpF
def Zs1 (W:World) (t:TypeId) (cs:Array Value):Fact Grows:=⟨Nat,0,fun g=>.pointer (some ⟨g,0,none⟩),fun g w=>W.heap.size≤g∧Whole w g t cs,fun _ _ _ h g=>⟨h.1,Grows.whole g h.2⟩⟩
def Zhd (W:World) (l:List Ht):Fact Grows:=⟨Option Addr×Nat,(none,0),fun p=>.slice p.1 l.length p.2,fun p w=>w.ownsRow W.heap.size 167 4 (.slice p.1 l.length p.2) l.length (l.flatMap htE),fun _ _ _ h g=>Zd h g⟩
section
variable {P:Program} {ops:Array Oper} {W:World} {Q:Act→World→Prop} {o:Oper} {rest:List Oper} {fs:List (Fact Grows)} {ks:Known} {a:Act}
theorem Zvg {F:Fact Grows} (f:FuncId) (args:Array Value) (hw:Region.wanted o (yielded ops a.tmps)=true) (h1:∀ w,Grows W w→(execOp a.eval o).run P w=.ok (.enter f args) w)
 (hc:∀ w,Grows W w→ks.for (o.looksAt ops) w→Calls P f args w fun e w'=>Grows w w'∧∃ x,e=.returned (F.val x)∧F.R x w') (h2:∀ x,wpF P ops Grows W Q rest fs ((o.dst,F.R x) :: ks) (a.put o.dst (F.val x))):wpF P ops Grows W Q (o :: rest) (F :: fs) ks a:=by
 unfold wpF fStep
 rw [if_pos hw]
 refine ⟨fun w hW hk=>?_,h2⟩
 unfold gives
 rw [h1 w hW]
 exact hc w hW hk
theorem Zxn (l:List Ht) (A:Option Addr) (c:Nat) (hw:Region.wanted o (yielded ops a.tmps)=true) (h1:∀ w,Grows W w→ks.for (o.looksAt ops) w→(execOp a.eval o).run P w=.ok (.value (.slice A l.length c)) w∧w.ownsRow W.heap.size 167 4 (.slice A l.length c) l.length (l.flatMap htE))
 (h2:∀ (A:Option Addr) (c:Nat),wpF P ops Grows W Q rest fs ((o.dst,fun w=>w.ownsRow W.heap.size 167 4 (.slice A l.length c) l.length (l.flatMap htE)) :: ks) (a.put o.dst (.slice A l.length c))) :
 wpF P ops Grows W Q (o :: rest) (Zhd W l :: fs) ks a:=by
 unfold wpF fStep
 rw [if_pos hw]
 refine ⟨fun w hW hk=>?_,fun x=>h2 x.1 x.2⟩
 unfold gives
 rw [(h1 w hW hk).1]
 exact ⟨Grows.refl w,(A,c),rfl,(h1 w hW hk).2⟩
theorem f_ptr (t:TypeId) (cs:Array Value) (hw:Region.wanted o (yielded ops a.tmps)=true) (h1:∀ w,Grows W w→(execOp a.eval o).run P w=.ok (.value (.pointer (some ⟨w.heap.size,0,none⟩))) (w.alloc (.cells cs t)))
 (h2:∀ g,wpF P ops Grows W Q rest fs ((o.dst,fun w=>W.heap.size≤g∧Whole w g t cs) :: ks) (a.put o.dst (.pointer (some ⟨g,0,none⟩)))) :
 wpF P ops Grows W Q (o :: rest) (Zs1 W t cs :: fs) ks a:=by
 unfold wpF fStep
 rw [if_pos hw]
 refine ⟨fun w hW hk=>?_,h2⟩
 unfold gives
 rw [h1 w hW]
 exact ⟨Za _ _,w.heap.size,rfl,hW.size,Whole.made _ _ _⟩
end
theorem Zmx {w:World} {base:Nat} {e t:TypeId} {size n g:Nat} {v:Value} {xs:List Value} {cs:Array Value} (h:w.ownsRow base e size v n xs) (h':Whole w g t cs) (hne:t≠e):∀ k,v.ownBlock=some k→k≠g:=fun k hk e'=>by
 rcases h.2 with ⟨rfl,_⟩ | ⟨g2,cap,cur,rfl,_,hh,_⟩
 ·simp [Value.ownBlock] at hk
 ·simp [Value.ownBlock] at hk
  subst hk e'
  have:=(show w.heap[g2]?=some (.cells cur e (0,0)) from hh).symm.trans h'
  injection this with this
  injection this with _ this
  exact hne this.symm
theorem Zli {w:World} {b:Nat} {A:Option Addr} {c:Nat} {hs:List Hd} {ts:List It} (ho:w.ownsRow b 212 3 (.slice A ts.length c) ts.length (itCells ts hs)) (hb:Jr w b hs ts):Items w A ts.length c ts :=
 Items.owned hb.1.symm rfl ho fun i h t hh ht=>Sl.owned (hb.2 i h t hh ht)
theorem Items.first {w:World} {A:Option Addr} {n c:Nat} {ts:List It} (h:Items w A n c ts) {k:Nat} (hk:k≤n):Items w A k c (ts.take k):=by
 obtain ⟨h1,h2,h3,hs,hl,hr,hq⟩:=h
 have e:itCells (ts.take k) (hs.take k)=(itCells ts hs).take (3*k):=by
  have h4:=itCells_append (ts.take k) (ts.drop k) (hs.take k) (hs.drop k) (by rw [List.length_take,List.length_take];omega)
  rw [List.take_append_drop,List.take_append_drop] at h4
  rw [h4]
  exact (List.take_left' (by rw [itCells_length _ _ (by rw [List.length_take,List.length_take];omega),List.length_take];omega)).symm
 refine ⟨by rw [List.length_take];omega,Nat.le_trans hk h2,h3,hs.take k,by rw [List.length_take];omega,?_,fun i x t hx ht=>hq i x t ?_ ?_⟩
 ·rw [e]
  refine ⟨by rw [List.length_take,hr.len];omega,fun j v hj=>?_⟩
  rw [List.getElem?_take] at hj
  split at hj
  ·exact hr.spot j v hj
  ·cases hj
 ·rw [List.getElem?_take] at hx
  split at hx
  ·exact hx
  ·cases hx
 ·rw [List.getElem?_take] at ht
  split at ht
  ·exact ht
  ·cases ht
theorem Zvh (A:Option Addr) (n c:Nat) (bs:List UInt8) (size:Int) (w:World) (hs:Sl w A n c bs) (hn:n≤1000000) :
 Calls Tryz.prog 94 #[.slice A n c,.int .i64 size] w fun e w'=>∃ A' m c',e=.returned (.tuple #[.slice A' m c',.bool (getH bs size).isSome]) ∧
  m=((getH bs size).getD []).length∧w'.ownsRow w.heap.size 167 4 (.slice A' m c') m (((getH bs size).getD []).flatMap htE)∧Grows w w':=by
 have hlen:=hs.len
 have hcap:=hs.cap
 have HALL:=hid (Zru A n c bs w hs hn)
 have HS:=hid hs
 obtain ⟨o,ho⟩:∃ o,okS size=o:=⟨_,rfl⟩
 have HSZ:=hid (fun w'=>show Calls Tryz.prog 152 #[.int .i64 size] w' fun e w''=>e=.returned (.bool o)∧Grows w' w'' from ho ▸ Zde size w')
 obtain ⟨G,hG⟩:∃ G,getH bs size=G:=⟨_,rfl⟩
 have hG0:=hG
 have hin:=@all_within bs
 have hcn:=@all_count bs
 unfold getH at hG0
 rw [ho] at hG0
 obtain ⟨⟨its,ps,en,er⟩,hal⟩:∃ r,allB bs 0=r:=⟨_,rfl⟩
 rw [hal] at HALL hG0 hin hcn
 dsimp only at HALL hG0 hin hcn
 rw [hG]
 have HGG:=hid (And.intro hG0 hin)
 have HCN:=hid hcn
 clear hG hG0 ho hal hin hs hcn
 have hnone:G=none→∀ (w':World),Grows w w'→∃ A' m c',Ending.returned (.tuple #[.slice none 0 0,.bool false])=Ending.returned (.tuple #[.slice A' m c',.bool G.isSome])∧m=(G.getD []).length∧w'.ownsRow w.heap.size 167 4 (.slice A' m c') m ((G.getD []).flatMap htE)∧Grows w w':=by
  rintro rfl w' hg
  exact ⟨none,0,0,rfl,rfl,World.ownsRow_nil _ _ _ _,hg⟩
 have HNONE:=hid hnone
 clear hnone
 go_enter Tryz.func94,Tryz.ntmps94
 go_wp2_with (fail)
 refine HALL.out.mono ?_
 rintro e w1 ⟨IA,ic,ihs,rfl,hown,hbod,hg1⟩
 have HIT:=hid (Zli hown hbod)
 have HG1:=hid (show Grows w w1 from hg1)
 clear hown hbod hg1
 obtain ⟨L,hL⟩:∃ L,its.length=L:=⟨_,rfl⟩
 rw [hL] at HIT HGG ⊢
 have HL:=hid hL
 clear hL
 go_wp2_with (fail)
 refine (HSZ.out w1).mono ?_
 rintro e w2 ⟨rfl,hg2⟩
 have HG2:=hid (HG1.out.trans hg2)
 have HIT2:=hid (Items.grow hg2 HIT.out)
 clear hg2 HIT
 cases o
 ·go_wp2_with (fail)
  refine bodyPost_ret (v:=.tuple #[.slice none 0 0,.bool false]) (by simp [results,Tryz.results94,go_sem]) rfl ?_
  exact HNONE.out (by rw [←HGG.out.1];rfl) _ HG2.out
 by_cases hps:ps=0
 rotate_left 1
 ·have k1:(ps:Int) > 0:=by omega
  have HX:=hid (show G=none by rw [←HGG.out.1];simp [hps])
  clear hps
  go_wp2_with (fail)
  refine bodyPost_ret (v:=.tuple #[.slice none 0 0,.bool false]) (by simp [results,Tryz.results94,go_sem]) rfl ?_
  exact HNONE.out HX.out _ HG2.out
 by_cases her:er=0
 rotate_left 1
 ·have k1:¬ (ps:Int) > 0:=by omega
  have k2:((er:Int) != 0)=true:=by rw [bne_iff_ne];omega
  have HX:=hid (show G=none by rw [←HGG.out.1];simp [her])
  clear her hps
  go_wp2_with (fail)
  refine bodyPost_ret (v:=.tuple #[.slice none 0 0,.bool false]) (by simp [results,Tryz.results94,go_sem]) rfl ?_
  exact HNONE.out HX.out _ HG2.out
 by_cases hl0:L=0
 ·subst hl0 her hps
  have HX:=hid (show G=none by rw [←HGG.out.1];simp)
  simp only [Int.natCast_zero]
  go_wp2_with (fail)
  refine bodyPost_ret (v:=.tuple #[.slice none 0 0,.bool false]) (by simp [results,Tryz.results94,go_sem]) rfl ?_
  exact HNONE.out HX.out _ HG2.out
 have k3:¬ (L:Int)=0:=by omega
 obtain ⟨K,hK⟩:∃ K,L=K+1:=⟨L - 1,by omega⟩
 have HIN:=hid (HGG.out.2 hps her)
 have hGE:=HGG.out.1
 rw [show L - 1=K by omega,if_pos (by simp [hl0,hps,her])] at hGE
 have hKL:K < L:=by omega
 have hKc:K≤ic:=by have:=HIT2.out.cap;omega
 have hLm:L≤1000000:=by
  have h1:=HL.out
  have h2:=HCN.out hps her
  omega
 have kw1:IntKind.i64.wrap ((L:Int) - 1)=(K:Int):=by rw [IntWalk.i64_in _ ⟨by omega,by omega⟩];omega
 have kw2:wrap64 ((L:Int) - 1)=(K:Int):=by rw [←IntWalk.i64_left];exact kw1
 have k4:(K:Int)≤(ic:Int):=by omega
 have k5:(0:Int)≤(K:Int):=by omega
 have k6:(K:Int) < (L:Int):=by omega
 obtain ⟨ad,SB,sm,sd,rfl,hc0,hc1,hc2,hsl⟩:=HIT2.out.spot hKL
 obtain ⟨⟨ta,tk,tb⟩,ht⟩:∃ t,its.getD K (0,0,[])=t:=⟨_,rfl⟩
 rw [ht] at hc0 hc1 hsl hGE
 dsimp only at hc0 hc1 hsl hGE
 have HTM:=hid (show (ta,tk,tb)∈its by
  rw [←ht,List.getD_eq_getElem?_getD,List.getElem?_eq_getElem (by rw [HL.out];exact hKL),Option.getD_some]
  exact List.getElem_mem _)
 obtain ⟨l,hl⟩:∃ l,(its.take K).map (fun t=>toldH t.2.2)=l:=⟨_,rfl⟩
 rw [hl] at hGE
 have hlK:l.length=K:=by rw [←hl,List.length_map,List.length_take,HL.out];omega
 have HTO:=hid (fun w' (hC:Grows w2 w')=>by
  have h1:=Zvd (some ad) K ic (its.take K) w' ((Items.grow hC HIT2.out).first (by omega)) (by omega) (fun t ht=>by have:=(HIN.out t (List.mem_of_mem_take ht)).2;omega)
  rw [hl] at h1
  exact h1)
 have HC:=hid (fun w' (hC:Grows w2 w')=>And.intro (hc0 w' hC) (And.intro (hc1 w' hC) (hc2 w' hC)))
 have HSB:=hid hsl
 have HGE:=hid hGE
 have HLK:=hid (And.intro hlK (And.intro hKL hKc))
 subst her hps
 simp only [Int.natCast_zero]
 clear hc0 hc1 hc2 hsl hGE hlK hl ht hK hl0 HGG hKL hKc
 go_wp2_with (fail)
 refine Ze (E:=Grows) 10 [Zb (.slice (some ad) L ic),Zb (.int .i64 (K:Int)),Zb (.slice (some ad) K ic),Zhd w2 l,Zb (.slice (some ad) L ic),Zb (.int .i64 (K:Int)),Zb (.pointer (some (ad.add (K*3)))),Zb (.agg #[.int .i64 (ta:Nat),.int .i64 (tk:Nat),.slice SB sm sd]),Zs1 w2 212 #[.int .i64 0,.int .i64 0,.slice none 0 0],Zhd w2 l] mixed (by kernel_rfl) (fun _ _ _=>Grows.trans) (Zf _) ?_
 simp only [List.take_succ_cons,List.take_zero,List.drop_succ_cons,List.drop_zero]
 iterate 3
  refine f_val _ (by rfl) ?_ ?_
  ·intro w' hC;clear hC;go_simp
  simp only [Pu]
 refine Zvg (F:=Zhd w2 l) 153 #[.slice (some ad) K ic] (by rfl) (by intro w' hC;clear hC;go_simp) ?_ ?_
 ·intro w' hC hks
  refine (HTO.out w' hC).mono ?_
  rintro e w'' ⟨A',c',rfl,h1,h2⟩
  refine ⟨h2,(A',c'),?_,?_⟩
  ·show _=Ending.returned (.slice A' l.length c')
   rw [HLK.out.1]
  ·show w''.ownsRow w2.heap.size _ 4 (.slice A' l.length c') l.length _
   rw [HLK.out.1]
   exact Zg h1 hC.size
 rintro ⟨HA,hcp⟩
 dsimp only [Zhd]
 simp only [Pu]
 iterate 3
  refine f_val _ (by rfl) ?_ ?_
  ·intro w' hC;clear hC;go_simp
  simp only [Pu]
 refine f_val _ (by rfl) ?_ ?_
 ·intro w' hC;obtain ⟨z0,z1,z2⟩:=HC.out w' hC;clear hC;go_simp
 simp only [Pu]
 refine f_ptr 212 #[.int .i64 0,.int .i64 0,.slice none 0 0] (by rfl) (by intro w' hC;clear hC;go_simp) ?_
 intro pg
 simp only [Pu]
 refine Zxn l HA hcp (by rfl) ?_ ?_
 ·intro w' hC hks
  refine ⟨?_,Known.get hks 1 rfl rfl⟩
  clear hC hks
  go_simp
 intro HB hcq
 simp only [Pu]
 refine Zu ?_
 intro w4 hC hks
 have HCw4:=hid hC
 have HPT:=hid (Known.at hks 1 rfl)
 have HHR:=hid (Known.at hks 0 rfl)
 clear hC hks
 have hm4:=HPT.out.2
 have q0:=hm4.free 0
 have q1:=hm4.free 1
 have q2:=hm4.free 2
 have y0:=hm4.cell 0
 have y1:=hm4.cell 1
 have y2:=hm4.cell 2
 simp only [Gt] at y0 y1 y2
 clear hm4
 go_wp2_with (fail)
 obtain ⟨w5,hw5⟩:∃ y,((w4.setCell ⟨pg,0,none⟩ (.int .i64 (ta:Nat))).setCell ⟨pg,1,none⟩ (.int .i64 (tk:Nat))).setCell ⟨pg,2,none⟩ (.slice SB sm sd)=y:=⟨_,rfl⟩
 have hgp:=HPT.out.1
 have hg5:Grows w2 w5:=by
  rw [←hw5]
  exact ((Below.setCell (p:=⟨pg,0,none⟩) HCw4.out hgp _).setCell (p:=⟨pg,1,none⟩) hgp _).setCell (p:=⟨pg,2,none⟩) hgp _
 have hm5:Whole w5 pg 212 #[.int .i64 (ta:Nat),.int .i64 (tk:Nat),.slice SB sm sd]:=by
  rw [←hw5]
  exact ((HPT.out.2.put 0 _).put 1 _).put 2 _
 have ho5:w5.ownsRow w2.heap.size 167 4 (.slice HB l.length hcq) l.length (l.flatMap htE):=by
  refine Zbv HHR.out fun k hk=>?_
  have hne:=Zmx HHR.out HPT.out.2 (by decide) k hk
  rw [←hw5,Below.heap_setCell _ _ _ _ hne,Below.heap_setCell _ _ _ _ hne,Below.heap_setCell _ _ _ _ hne]
 rw [hw5]
 have hta:ta≤n:=by have:=(HIN.out _ HTM.out).1;omega
 have hin2:=HIN.out _ HTM.out
 obtain ⟨r,hr⟩:∃ r,J3 l=r:=⟨_,rfl⟩
 obtain ⟨eq,heq⟩:∃ b,decide (tb=lastB l.length size (bs.take ta))=b:=⟨_,rfl⟩
 have HRT:=hid (fun w' (hC:Grows w5 w')=>by
  have h1:=Ziw HB l.length hcq l w' (Rs.owned htL rfl (Zg (Zd ho5 hC) (Nat.zero_le _))) (by have:=HLK.out.1;have:=HLK.out.2;omega)
  rw [hr] at h1
  exact h1)
 have HLA:=hid (fun w' (hC:Grows w5 w')=>Zlg (l.length:Int) size A ta c (bs.take ta) w' ((HS.out.grow (HG2.out.trans (hg5.trans hC))).first hta) (by unfold maxLen;omega))
 have HC5:=hid (fun w' (hC:Grows w5 w')=>And.intro ((hC.whole hm5).cell 0) ((hC.whole hm5).cell 2))
 have HSL:=hid (fun w' (hC:Grows w5 w')=>Sl.grow (hg5.trans hC) HSB.out)
 have HO5:=hid (And.intro ho5 (HG2.out.trans hg5))
 have HRE:=hid (And.intro hr heq)
 have HS2:=hid HG2.out.size
 have k7:(ta:Int)≤(c:Int):=by omega
 have k8:(0:Int)≤(ta:Int):=by omega
 have HGF:=hid (show (if (r&&eq)=true then some l else none)=G by
  rw [←hr,←heq,HLK.out.1]
  exact HGE.out)
 clear hgp hg5 hm5 ho5 hta hin2 hr heq q0 q1 q2 y0 y1 y2 hw5
 cases r
 ·replace HGF:=hid (show G=none by rw [←HGF.out];rfl)
  refine Zk (E:=Grows) [Zb (.slice HB l.length hcq),Zb (.bool false),Zb (.bool true),Zb (.bool true),Zb undef,Zb undef,Zb undef,Zb undef,Zb undef,Zb undef,Zb undef,Zb undef,Zb undef,Zb undef,Zb undef,Zb undef,Zb (.bool true)] (by kernel_rfl) (by kernel_rfl) (fun _ _ _=>Grows.trans) (Zf _) ?_
  refine f_val _ (by rfl) ?_ ?_
  ·intro w' hC;clear hC;go_simp
  simp only [Pu]
  refine Z7 154 #[.slice HB l.length hcq] (.bool false) (by rfl) (by intro w' hC;clear hC;go_simp) ?_ ?_
  ·intro w' hC hks;exact (HRT.out w' hC).mono fun e w'' hh=>⟨hh.1,hh.2⟩
  simp only [Pu]
  iterate 2
   refine f_val _ (by rfl) ?_ ?_
   ·intro w' hC;clear hC;go_simp
   simp only [Pu]
  iterate 12
   refine Zc8 (by rfl) ?_
   simp only [Pu]
  refine f_val _ (by rfl) ?_ ?_
  ·intro w' hC;clear hC;go_simp
  simp only [Pu]
  refine Zu ?_
  intro w6 hC hks
  have HCw6:=hid hC
  clear hC hks
  go_wp2_with (fail)
  refine bodyPost_ret (v:=.tuple #[.slice none 0 0,.bool false]) (by simp [results,Tryz.results94,go_sem]) rfl ?_
  exact HNONE.out HGF.out _ (HO5.out.2.trans HCw6.out)
 refine Zk (E:=Grows) [Zb (.slice HB l.length hcq),Zb (.bool true),Zb (.bool false),Zb (.bool false),Zb (.pointer (some ⟨pg,2,none⟩)),Zb (.slice SB sm sd),Zb (.slice HB l.length hcq),Zb (.int .i64 (l.length:Int)),Zb (.int .i64 size),Zb (.slice A n c),Zb (.pointer (some ⟨pg,0,none⟩)),Zb (.int .i64 (ta:Nat)),Zb (.slice A ta c),J1 (lastB l.length size (bs.take ta)),Zb (.bool eq),Zb (.bool (!eq)),Zb (.bool (!eq))] (by kernel_rfl) (by kernel_rfl) (fun _ _ _=>Grows.trans) (Zf _) ?_
 refine f_val _ (by rfl) ?_ ?_
 ·intro w' hC;clear hC;go_simp
 simp only [Pu]
 refine Z7 154 #[.slice HB l.length hcq] (.bool true) (by rfl) (by intro w' hC;clear hC;go_simp) ?_ ?_
 ·intro w' hC hks;exact (HRT.out w' hC).mono fun e w'' hh=>⟨hh.1,hh.2⟩
 simp only [Pu]
 iterate 3
  refine f_val _ (by rfl) ?_ ?_
  ·intro w' hC;clear hC;go_simp
  simp only [Pu]
 refine f_val _ (by rfl) ?_ ?_
 ·intro w' hC;obtain ⟨z0,z2⟩:=HC5.out w' hC;clear hC;go_simp
 simp only [Pu]
 iterate 5
  refine f_val _ (by rfl) ?_ ?_
  ·intro w' hC;clear hC;go_simp
  simp only [Pu]
 refine f_val _ (by rfl) ?_ ?_
 ·intro w' hC;obtain ⟨z0,z2⟩:=HC5.out w' hC;clear hC;go_simp
 simp only [Pu]
 refine f_val _ (by rfl) ?_ ?_
 ·intro w' hC;clear hC;go_simp
 simp only [Pu]
 refine f_new (lastB l.length size (bs.take ta)) 156 #[.int .i64 (l.length:Int),.int .i64 size,.slice A ta c] (by rfl) (by intro w' hC;clear hC;go_simp) ?_ ?_
 ·intro w' hC hks;exact (HLA.out w' hC).mono fun e w'' ⟨A',c',he,h1,h2⟩=>⟨A',13,c',he,Sl.owned h1,h2⟩
 intro LA lc
 simp only [Pu]
 refine Z7 155 #[.slice SB sm sd,.slice LA (lastB l.length size (bs.take ta)).length lc] (.bool eq) (by rfl) (by intro w' hC;clear hC;go_simp) ?_ ?_
 ·intro w' hC hks;rw [←HRE.out.2];exact (Zhx SB sm sd tb LA _ lc _ w' (HSL.out w' hC) (Known.get hks 0 rfl rfl)).mono fun e w'' hh=>⟨hh.1,hh.2⟩
 simp only [Pu]
 iterate 2
  refine f_val _ (by rfl) ?_ ?_
  ·intro w' hC;clear hC;go_simp
  simp only [Pu]
 refine Zu ?_
 intro w6 hC hks
 have HCw6:=hid hC
 clear hC hks
 cases eq
 ·replace HGF:=hid (show G=none by rw [←HGF.out];rfl)
  go_wp2_with (fail)
  refine bodyPost_ret (v:=.tuple #[.slice none 0 0,.bool false]) (by simp [results,Tryz.results94,go_sem]) rfl ?_
  exact HNONE.out HGF.out _ (HO5.out.2.trans HCw6.out)
 ·replace HGF:=hid (show some l=G by rw [←HGF.out];rfl)
  go_wp2_with (fail)
  refine bodyPost_ret (v:=.tuple #[.slice HB l.length hcq,.bool true]) (by simp [results,Tryz.results94,go_sem]) rfl ?_
  rw [←HGF.out]
  exact ⟨HB,l.length,hcq,rfl,rfl,Zg (Zd HO5.out.1 HCw6.out) HS2.out,HO5.out.2.trans HCw6.out⟩
end Go.Proofs.YtkelafkbmnjpeaaGreat
namespace Go.Proofs.YtkelafkbmnjpeaaGreat
open Go.RowKit
def foundL:List Rc→Nat→List Fn
 | [],_=>[]
 | r :: rs,a=>(a,(frS r).length,r) :: foundL rs (a+(frS r).length)
def Yp (rs:List Rc):List UInt8:=putL (rs.map putR)
theorem foundL_snoc:∀ (rs:List Rc) (r:Rc) (a:Nat),foundL (rs++[r]) a=foundL rs a++[(a+(Yp rs).length,(frS r).length,r)]
 | [],r,a=>by simp [foundL,Yp,putL]
 | x :: rs,r,a=>by
   rw [List.cons_append,foundL,foundL,foundL_snoc rs,List.cons_append]
   have e:(Yp (x :: rs)).length=(frS x).length+(Yp rs).length:=by
    show (putB (putR x)++putL (rs.map putR)).length=_
    rw [List.length_append]
    rfl
   rw [e,Nat.add_assoc]
theorem Zfx {r:Rc} (h:Zp r):Good (putR r):=Zju h
theorem Zco {r:Rc} (h:Zp r):frS r=Yf (putR r):=Yd (Zfx h)
theorem its_found:∀ (rs:List Rc) (a:Nat),(∀ r∈rs,Zp r)→fnsP (itsL (rs.map putR) a)=foundL rs a∧badP (itsL (rs.map putR) a)=0
 | [],a,_=>⟨rfl,rfl⟩
 | r :: rs,a,h=>by
   have hr:=h r (List.mem_cons_self ..)
   obtain ⟨h1,h2⟩:=its_found rs (a+((putR r).length+8)) fun x hx=>h x (List.mem_cons_of_mem _ hx)
   have hg:=Zrz hr
   rw [List.map_cons,itsL,if_pos (Zfx hr)]
   have hlen:(frS r).length=(putR r).length+8:=by rw [Zco hr,Zh]
   constructor
   ·unfold fnsP at h1 ⊢
    rw [List.filter_cons,if_pos (by rw [hg];rfl),List.map_cons,h1,foundL,hlen]
    congr 2
    unfold rcOf
    rw [hg]
    rfl
   ·unfold badP at h2 ⊢
    rw [List.filter_cons,if_neg (by rw [hg];simp),h2]
def segB (n:Int) (rs:List Rc):List UInt8:=putL (Zw n :: rs.map putR)
theorem Ze5 (n:Int):Good (Zw n):=by unfold Good;rw [Yi];omega
theorem Yg (n:Int) (rs:List Rc):(segB n rs).length=13+(Yp rs).length:=by
 unfold segB Yp
 rw [putL,List.length_append,Yd (Ze5 n),Zh,Yi]
theorem Zhe (n:Int) (rs:List Rc) (r:Rc):segB n (rs++[r])=segB n rs++frS r:=by
 unfold segB
 rw [List.map_append,←List.cons_append,putL_append]
 rw [List.map_cons,List.map_nil]
 show _++(putB (putR r)++[])=_
 rw [List.append_nil]
 rfl
theorem Zlj (n:Int) (ts:List It):Zch ((0,13,Zw n) :: ts) n=true:=by
 show (decide ((0:Nat)=0)&&decide (Zw n=Zw n))=true
 rw [decide_eq_true (p:=Zw n=Zw n) rfl]
 rfl
structure SgW (m:Dk) (U:Nat):Prop where
 well:Well m
 most:m.most=16777216
 used:m.used=(U:Int)
structure Sg (m:Dk) (n:Int) (f:Nat) (rs:List Rc):Prop where
 find:Dir.find (nmS n) m.names=some f
 bytes:(m.files f).bytes=segB n rs
 right:∀ r∈rs,Zp r
section
variable {m:Dk} {U:Nat} {n:Int} {f:Nat} {rs:List Rc}
theorem Zs2 {bs:List UInt8} {ts:List It} {bad:Nat} {x:Nat×Nat} (h:m.read (nmS n) 0 (m.size (nmS n)).1=(some bs,0)) (ha:allB bs 0=(ts,bad,x)) (hb:Zch ts n=true):Ya m n=(fnsP (ts.drop 1),((bad+badP (ts.drop 1):Nat):Int),0):=by
 unfold Ya
 rw [h]
 show (if (0:Int)=0 then (if Zch (allB bs 0).1 n=true then (fnsP ((allB bs 0).1.drop 1),(((allB bs 0).2.1+badP ((allB bs 0).1.drop 1):Nat):Int),0) else ([],0,22)) else ([],0,0))=_
 rw [if_pos rfl,ha]
 show (if Zch ts n=true then (fnsP (ts.drop 1),((bad+badP (ts.drop 1):Nat):Int),0) else ([],0,22))=_
 rw [if_pos hb]
end
theorem Ze6 {x:Int} (h:x=-1):x < 0:=by omega
def A0:Dk:=Dk.new 16777216
def A1:Dk:=(makeP A0 1).1
def A2:Dk:=(makeP A1 2).1
end Go.Proofs.YtkelafkbmnjpeaaGreat
