import Derived.Test.YtkelafkbmnjpeaaGreatMG34
import Derived.Test.YtkelafkbmnjpeaaGreatMG35
import Derived.Test.YtkelafkbmnjpeaaGreatMG36
set_option linter.unusedSimpArgs false
set_option linter.unusedVariables false
set_option maxHeartbeats 16000000
set_option maxRecDepth 100000
namespace Go.Proofs.YtkelafkbmnjpeaaGreat
open Go.Lib (hid)
open Go.RowKit Go.Maps Go.WideMaps
open H15
attribute [local irreducible] wpF

theorem Zit {fn:Func} {p:Tmp} (h:fn.results=#[.cell p 39]) (tmps:Array Value) (w:World) (g:Nat) (t:TypeId) (u0 u1 u2 u3 u4 u5 u6:Value)
 (hp:tmps.getD p undef=.pointer (some ⟨g,0,none⟩)) (hg:Whole w g t #[u0,u1,u2,u3,u4,u5,u6]) :
 (results fn tmps).run Tryz.prog w=.ok (.agg #[u0,u1,u2,u3,u4,u5,u6]) w:=by
 have hp':tmps[p]?.getD undef=.pointer (some ⟨g,0,none⟩):=by simpa using hp
 have hi:(Tryz.prog.info? 39).map (·.size)=some 7:=by kernel_rfl
 simp [results,h,hp',asAddr,run_loadVar_row w g t 39 #[u0,u1,u2,u3,u4,u5,u6] (0,0) _ hg Tryz.underlying39 rfl hi]
theorem Zdj (s:ByteArray) (w:World):Calls Tryz.prog 50 #[.string s] w fun e w'=>e=.returned (.agg #[.int .i64 4,.string s,.int .i64 0,.int .i64 0,.int .i64 0,.slice none 0 0,.slice none 0 0])∧Grows w w':=by
 go_enter Tryz.func50,Tryz.ntmps50
 go_wp2_with (fail)
 refine bodyPost_ret (Zit rfl _ _ w.heap.size 39 _ _ _ _ _ _ _ rfl (Whole.made w _ _)) rfl ?_
 exact ⟨rfl,Zb _ _⟩
def Lq:Nat→Lg
 | 0=>L1
 | i+1=>(laddP (Lq i) recU).1
theorem right0:LgR L0:=⟨by decide,.inl rfl,by decide⟩
theorem rightq:∀ i,LgR (Lq i)
 | 0=>right0.ladd recT
 | i+1=>(rightq i).ladd recU
theorem ok0:LOk 0 13 L0.dk:=LOk.new 10000
theorem ok1:LOk 6 8213 L1.dk:=(ok0.ladd right0 (by omega) recT).mono (by omega) (by have:=Zc4 recT;omega)
theorem okq:∀ i,LOk (6+6*i) (8213+8200*i) (Lq i).dk
 | 0=>ok1
 | i+1=>((okq i).ladd (rightq i) (by omega) recU).mono (by omega) (by have:=Zc4 recU;omega)
theorem right7:LgR L7:=rightq 6
theorem ok7:LOk 42 57413 L7.dk:=okq 6
theorem right8:LgR L8:=right7.drop [1]
theorem LOk.drop {L:Lg} {T S:Nat} (h:LOk T S L.dk) (hr:LgR L) (ds:List Int):LOk (T+2003) S (dropP L ds).1.dk:=by
 have h1:=h.lsave (Yl ds L.man.segs)
 unfold dropP
 split
 ·split
  ·have h2:=LOk.removes (goneN (goesL ds L.man.segs)) h1
   refine h2.mono ?_ (Nat.le_refl _)
   have:=Zmu ds L.man.segs
   have:=hr.few
   omega
  ·exact h1.mono (by omega) (Nat.le_refl _)
 ·exact h.mono (by omega) (Nat.le_refl _)
theorem ok8:LOk 2045 57413 L8.dk:=ok7.drop right7 [1]
theorem Zkf {r:Rc} (h1:r.locs=[]) (h2:r.b=[]) (w':World):RcIn w' none 0 0 none 0 0 r:=by
 refine ⟨?_,?_⟩
 ·rw [h1];exact Locs.nil _
 ·rw [h2];exact Sl.nil _
def isO (B n:Nat) (l:List Int):Fact Grows:=⟨Option Addr×Nat,(none,0),fun q=>.slice q.1 n q.2,fun q w=>w.ownsRow B 3 1 (.slice q.1 n q.2) n (l.map iV),fun _ _ _ h g=>Zd h g⟩
theorem Zmx (w:World):Calls Tryz.prog 9 #[] w fun e w'=>e=.returned (.bool true)∧Grows w w':=by
 go_enter Tryz.func9,Tryz.ntmps9
 go_wp2_with (fail)
 refine (Zot w 10000).mono ?_
 rintro e w1 ⟨d,rfl,hn⟩
 have HD:=hid (show DkIn w.heap.size w w1 d (fun _=>False) (Dk.new 10000) from DkIn.new hn (Nat.le_refl _) (Below.refl _ _) (fun k h=>h.elim))
 clear hn
 have hop:=Zf0 64 w1 HD.out ok0.ok (by omega)
 rw [open0] at hop
 have HOP:=hid hop
 clear hop
 go_wp2_with (fail)
 refine HOP.out.mono ?_
 rintro e w2 ⟨hg2,(⟨h0,_⟩ | ⟨L,l,h0,_,rfl,hl⟩)⟩
 ·cases h0
 injection h0 with h0
 subst h0
 have H2:=hid hl
 clear hg2 hl HOP
 obtain ⟨A2,n2,c2,h2⟩:=H2.out
 have hla:=Zix h2
 rw [show (if L0.last=-1 then 0 else L0.last)=0 from rfl,show (!decide (L0.last=-1))=false from rfl] at hla
 have HLA:=hid hla
 clear hla h2
 go_wp2_with (fail)
 refine HLA.out.mono ?_
 rintro e w3 ⟨rfl,rfl⟩
 clear HLA
 go_wp2_with (fail)
 refine (Zdj _ w2).mono ?_
 rintro e w3 ⟨rfl,hg3⟩
 have H3:=hid (H2.out.grow hg3)
 clear hg3
 obtain ⟨A3,n3,c3,h3⟩:=H3.out
 have had:=Zhj recT none 0 0 none 0 0 w3 (fun w' _=>Zkf rfl rfl w') h3 right0 ok0 (by omega) (by omega) (fun _=>by omega)
 rw [show laddP L0 recT=(L1,(laddP L0 recT).2) from rfl,added1] at had
 have HAD:=hid had
 clear had h3
 go_wp2_with (fail)
 refine HAD.out.mono ?_
 rintro e w4 ⟨rfl,h4,hs4⟩
 have H4:=hid (show LgIn w.heap.size w w4 d l (fun _=>False) (Lq 0) from h4)
 clear h4 hs4 HAD
 go_wp2_with (fail)
 go_loopw [10] (fun vi wr=>∃ i:Nat,i≤6∧vi=.int .i64 (i:Int)∧Hid (LgIn w.heap.size w wr d l (fun _=>False) (Lq i))) (fun i _=>6 - (intOf i).toNat)
 case atStart=>exact ⟨0,by omega,rfl,H4⟩
 case round =>
  obtain ⟨i,hi,rfl,HI⟩:=hrel
  by_cases hlt:i < 6
  ·have hlt':(i:Int) < 6:=by omega
   have hj0:(0:Int)≤(i:Int):=by omega
   have e5:IntKind.i64.wrap ((i:Int)+1)=(i:Int)+1:=IntWalk.i64_in _ ⟨by omega,by omega⟩
   go_wp2_with (fail)
   refine (Zdj _ wr).mono ?_
   rintro e w5 ⟨rfl,hg5⟩
   obtain ⟨A5,n5,c5,h5⟩:=HI.out.grow hg5
   have had:=Zhj recU none 0 0 none 0 0 w5 (fun w' _=>Zkf rfl rfl w') h5 (rightq i) (okq i) (by omega) (by omega) (fun _=>by omega)
   have HAD:=hid had
   clear had h5 hg5
   go_wp2_with (fail)
   refine HAD.out.mono ?_
   rintro e w6 ⟨rfl,h6,hs6⟩
   have H6:=hid (show LgIn w.heap.size w w6 d l (fun _=>False) (Lq (i+1)) from h6)
   clear h6 hs6 HAD
   go_wp2_with (fail)
   go_roundw
   case rel=>exact ⟨i+1,by omega,by first | rfl | go_num,H6⟩
   case measure=>simp [intOf];omega
  obtain rfl:i=6:=by omega
  have H7:=hid (show LgIn w.heap.size w wr d l (fun _=>False) L7 from HI.out)
  clear HI HD H2 H3 H4
  obtain ⟨A7,n7,c7,h7⟩:=H7.out
  have hla:=Zix h7
  rw [show (if L7.last=-1 then 0 else L7.last)=3 by rw [last7];rfl,show (!decide (L7.last=-1))=true by rw [last7];rfl] at hla
  have HLA:=hid hla
  have hgt:=Zhl 1 13 ⟨by decide,by decide⟩ wr h7 right7 ok7.ok (by omega)
  rw [got7] at hgt
  have HGT:=hid hgt
  clear hla hgt
  go_wp2_with (fail)
  refine HLA.out.mono ?_
  rintro e w8 ⟨rfl,rfl⟩
  clear HLA
  go_wp2_with (fail)
  refine HGT.out.mono ?_
  rintro e w9 ⟨LA,ln,lc,BA,bn,bc,rfl,hro,hg9⟩
  have HR9:=hid (show RcOwn w9 wr.heap.size LA ln lc BA bn bc recT from hro)
  have hm9:=Whole.made w9 39 (rcVal recT LA ln lc BA bn bc)
  have hga:=Zb w9 (.cells (rcVal recT LA ln lc BA bn bc) 39)
  have hgb:=Grows.trans hg9 hga
  have HM9:=hid hm9
  have H9:=hid (h7.more hgb)
  have HO9:=hid (show wr.heap.size≤w9.heap.size from hg9.size)
  have HRO:=hid (hro.grow hga)
  clear hro hg9 hm9 hga hgb h7 HGT
  unfold rcVal at HM9 H9 HRO
  unfold rcV
  go_wp2_with (fail)
  obtain ⟨w10,hw10⟩:∃ z,w9.alloc (.cells #[.int .i64 recT.kind,.string ⟨recT.key.toArray⟩,.int .i64 recT.id,.int .i64 recT.no,.int .i64 recT.size,.slice LA ln lc,.slice BA bn bc] 39)=z:=⟨_,rfl⟩
  have hsz10:w10.heap.size=w9.heap.size+1:=by rw [←hw10,World.size_alloc]
  rw [hw10] at HM9 H9 HRO ⊢
  clear hw10
  have hhi:=Zn8 1 w10 H9.out right7 ok7 (by omega) (by omega)
  have HHI:=hid hhi
  have HZ10:=hid hsz10
  clear hhi hsz10 H7
  refine HHI.out.mono ?_
  rintro e w11 ⟨A11,m11,c11,rfl,hm11,_,hg11⟩
  rw [hints7.2] at hm11
  subst hm11
  rw [hints7.1]
  have hl1:=Whole.made w11 3 #[.int .i64 1]
  have hga:=Zb w11 (.cells #[.int .i64 1] 3)
  have hsz12:=World.size_alloc w11 (.cells #[.int .i64 1] 3)
  obtain ⟨w12,hw12⟩:∃ z,w11.alloc (.cells #[.int .i64 1] 3)=z:=⟨_,rfl⟩
  rw [hw12] at hl1 hga hsz12
  have hgc:=Grows.trans (show Grows w10 w11 from hg11) hga
  have h12:=H9.out.more hgc
  have hdr:=Zfy (some ⟨w11.heap.size,0,none⟩) 1 1 [1] w12 (Ints.lit hl1 [1] rfl rfl) (by omega) (fun ad e _=>by injection e with e;subst e;exact .inr (.inr ⟨hg11.size,by show w11.heap.size < w12.heap.size;omega⟩)) h12 right7 ok7 (by omega) (by omega)
  rw [show dropP L7 [1]=(L8,(dropP L7 [1]).2) from rfl,drop7] at hdr
  have HDR:=hid hdr
  have HB12:=hid (hgc.whole HM9.out)
  have HBO:=hid (show (fun k=>(False∨wr.heap.size≤k∧k < w10.heap.size)∨w10.heap.size≤k∧k < w12.heap.size) w9.heap.size from .inl (.inr ⟨HO9.out,by have:=HZ10.out;omega⟩))
  clear hl1 hga hsz12 hgc h12 hdr hg11 HHI
  go_wp2_with (first | rw [hw12] | fail)
  clear hw12
  refine HDR.out.mono ?_
  rintro e w13 ⟨rfl,h13,st13⟩
  have HI13:=hid (show LgIn w.heap.size w w13 d l (fun k=>(False∨wr.heap.size≤k∧k < w10.heap.size)∨w10.heap.size≤k∧k < w12.heap.size) L8 from h13)
  have HB13:=hid (Zo st13 HB12.out HBO.out)
  clear h13 st13 HDR
  have hl1:=Whole.made w13 3 #[.int .i64 3]
  have hga:=Zb w13 (.cells #[.int .i64 3] 3)
  have hsz14:=World.size_alloc w13 (.cells #[.int .i64 3] 3)
  obtain ⟨w14,hw14⟩:∃ z,w13.alloc (.cells #[.int .i64 3] 3)=z:=⟨_,rfl⟩
  rw [hw14] at hl1 hga hsz14
  obtain ⟨A13,n13,c13,h13⟩:=HI13.out
  have h14:=h13.more hga
  have hdr:=Zfy (some ⟨w13.heap.size,0,none⟩) 1 1 [3] w14 (Ints.lit hl1 [3] rfl rfl) (by omega) (fun ad e _=>by injection e with e;subst e;exact .inr (.inr ⟨Nat.le_refl _,by show w13.heap.size < w14.heap.size;omega⟩)) h14 right8 ok8 (by omega) (by omega)
  rw [drop8] at hdr
  have HDR:=hid hdr
  have HB14:=hid (hga.whole HB13.out)
  clear hl1 hga hsz14 h13 h14 hdr
  go_wp2_with (first | rw [hw14] | fail)
  clear hw14
  refine HDR.out.mono ?_
  rintro e w15 ⟨rfl,h15,st15⟩
  have HB15:=hid (Zo st15 HB14.out (.inl HBO.out))
  have HI15:=hid (show LgIn w.heap.size w w15 d l (fun _=>False) L8 from LgIn.less h15 fun k hk=>hk.elim)
  clear h15 st15 HDR
  obtain ⟨A15,n15,c15,h15⟩:=HI15.out
  have hgt:=Zhl 1 13 ⟨by decide,by decide⟩ w15 h15 right8 ok8.ok (by omega)
  rw [got8] at hgt
  have HGT:=hid hgt
  clear hgt h15
  go_wp2_with (fail)
  refine HGT.out.mono ?_
  rintro e w16 ⟨LA2,ln2,lc2,BA2,bn2,bc2,rfl,_,hg16⟩
  have HG16:=hid (show Grows w15 w16 from hg16)
  clear hg16 HGT
  unfold rcV
  go_wp2_with (fail)
  obtain ⟨W,hW⟩:∃ z,w16.alloc (.cells #[.int .i64 Rc.none.kind,.string ⟨Rc.none.key.toArray⟩,.int .i64 Rc.none.id,.int .i64 Rc.none.no,.int .i64 Rc.none.size,.slice LA2 ln2 lc2,.slice BA2 bn2 bc2] 39)=z:=⟨_,rfl⟩
  have hgW:Grows w15 W:=by rw [←hW];exact Grows.trans HG16.out (Zb _ _)
  obtain ⟨A17,n17,c17,h17⟩:=HI15.out.grow hgW
  obtain ⟨gb,hgb⟩:∃ gb,w9.heap.size=gb:=⟨_,rfl⟩
  have hbx:=hgW.whole HB15.out
  rw [hgb] at hbx
  have HBC:=hid (fun w' (hC:Grows W w')=>(box7 (hC.whole hbx):w'.cell? { block:=gb,off:=0 }=some (.int .i64 4)∧w'.cell? { block:=gb,off:=1 }=some (.string ⟨#[97,98]⟩)∧w'.cell? { block:=gb,off:=2 }=some (.int .i64 0)∧w'.cell? { block:=gb,off:=3 }=some (.int .i64 0)∧w'.cell? { block:=gb,off:=4 }=some (.int .i64 0)∧w'.cell? { block:=gb,off:=5 }=some (.slice LA ln lc)∧w'.cell? { block:=gb,off:=6 }=some (.slice BA bn bc)))
  have HOPN:=hid (show ∀ w',Grows W w'→Calls Tryz.prog 13 #[.pointer (some ⟨d,0,none⟩),.int .i64 63] w' fun e w''=>e=.returned (.tuple #[.pointer none,.int .i64 1])∧Grows w' w'' from fun w' hC=>(Zf0 63 w' (h17.grow hC).dk ok8.ok (by omega)).mono fun e w'' hh=>by
   rw [Zvo] at hh
   obtain ⟨hg,(⟨_,he⟩ | ⟨_,_,h0,_⟩)⟩:=hh
   ·exact ⟨he,hg⟩
   ·cases h0)
  have hll:=(HRO.out.inn).locs.len
  have HSR:=hid (show ∀ w',Calls Tryz.prog 45 #[.agg #[.int .i64 4,.string ⟨#[97,98]⟩,.int .i64 0,.int .i64 0,.int .i64 0,.slice LA ln lc,.slice BA bn bc],.agg #[.int .i64 4,.string ⟨#[97,98]⟩,.int .i64 0,.int .i64 0,.int .i64 0,.slice none 0 0,.slice none 0 0]] w' fun e w''=>e=.returned (.bool true)∧Grows w' w'' from fun w'=>(Zmv recT recT LA ln lc BA bn bc none 0 0 none 0 0 w' (Ztq HRO.out.inn w' rfl rfl) (Zkf rfl rfl w') (by simp [recT] at hll;omega)).mono fun e w'' hh=>by
   rw [decide_eq_true (p:=recT=recT) rfl] at hh
   exact hh)
  have HSEG:=hid (show ∀ w',Grows W w'→Calls Tryz.prog 35 #[.pointer (some ⟨l,0,none⟩)] w' fun e w''=>Grows w' w''∧∃ x:(isO W.heap.size 2 [2,3]).α,e=.returned ((isO W.heap.size 2 [2,3]).val x)∧(isO W.heap.size 2 [2,3]).R x w'' from fun w' hC=>(Zen (h17.grow hC) right8).mono fun e w'' ⟨A',c',he,ho,hg⟩=>by
   have hn:n17=2:=by have:=h17.ints.len;rw [segs8] at this;simpa using this.symm
   subst hn
   rw [segs8] at ho
   exact ⟨hg,(A',c'),he,Zh ho hC.size⟩)
  have HSIN:=hid (show ∀ w' As cs g2,w'.ownsRow W.heap.size 3 1 (.slice As 2 cs) 2 (([2,3]:List Int).map iV)→Whole w' g2 3 #[.int .i64 2,.int .i64 3]→Calls Tryz.prog 34 #[.slice As 2 cs,.slice (some ⟨g2,0,none⟩) 2 2] w' fun e w''=>e=.returned (.bool true)∧Grows w' w'' from fun w' As cs g2 h1 h2 =>
   Zoa As 2 cs (some ⟨g2,0,none⟩) 2 2 [2,3] [2,3] w' (Ints.owned h1).row (Ints.lit h2 [2,3] rfl rfl).row (by decide))
  have HLOW:=hid (show Grows w W from h17.dk.low)
  rw [hgb]
  clear hgW h17 hbx hll HRO HB12 HB13 HB14 HB15 H9 HM9 HR9 HBO HZ10 HO9 hgb
  go_wp2_with (first | rw [hW] | fail)
  clear hW
  refine (HOPN.out W (Grows.refl _)).mono ?_
  rintro e w18 ⟨rfl,hg18⟩
  have HG18:=hid (show Grows W w18 from hg18)
  clear hg18
  go_wp2_with (fail)
  refine Zg (E:=Grows) [Za (.bool false),Za (.bool true),Za (.bool true),Za (.int .i64 1),Za (.bool true),Za (.bool true),Za (.bool true),Za (.int .i64 13),Za (.bool true),Za (.bool true),Za (.bool true),Za (.int .i64 11),Za (.bool true),Za (.bool true),Za (.bool true),Za (.int .i64 0),Za (.bool true),Za (.bool true),Za (.bool true),Za (.int .i64 3),Za (.bool true),Za (.bool true),Za (.bool true),Za (.bool true),Za (.bool true),Za (.bool true),Za (.agg #[.int .i64 4,.string ⟨#[97,98]⟩,.int .i64 0,.int .i64 0,.int .i64 0,.slice LA ln lc,.slice BA bn bc]),Za (.agg #[.int .i64 4,.string ⟨#[97,98]⟩,.int .i64 0,.int .i64 0,.int .i64 0,.slice none 0 0,.slice none 0 0]),Za (.bool true),Za (.bool true),Za (.bool true),Za (.int .i64 0),Za (.bool true),Za (.bool true),Za (.bool true),Za (.slice A11 2 c11),Za (.int .i64 2),Za (.bool true),Za (.bool true),Za (.bool true),Za (.bool true),Za (.bool true),Za (.bool true),Za (.int .i64 0),Za (.bool true),Za (.bool true),Za (.bool true),Za (.int .i64 1),Za (.bool true),Za (.bool true),Za (.bool true),Za (.int .i64 3),Za (.bool true),Za (.bool true),Za (.bool true),Za (.int .i64 1),Za (.bool true),Za (.bool true),Za (.bool true),Za (.pointer (some ⟨l,0,none⟩)),isO W.heap.size 2 [2,3],Zo7 (3) (#[.int .i64 2,.int .i64 3]) 2,Za (.bool true),Za (.bool true),Za (.bool true)] (by kernel_rfl) (by kernel_rfl) (fun _ _ _=>Grows.trans) (Ze _) ?_
  iterate 26
   refine f_val _ (by rfl) ?_ ?_
   ·intro w' hC;clear hC;go_simp
   simp only [Pu]
  refine f_val _ (by rfl) ?_ ?_
  ·intro w' hC;obtain ⟨x0,x1,x2,x3,x4,x5,x6⟩:=HBC.out w' (Grows.trans HG18.out hC);clear hC;go_simp
  simp only [Pu]
  refine Zv 50 #[.string ⟨#[97,98]⟩] (.agg #[.int .i64 4,.string ⟨#[97,98]⟩,.int .i64 0,.int .i64 0,.int .i64 0,.slice none 0 0,.slice none 0 0]) (by rfl) (by intro w' hC;clear hC;go_simp) ?_ ?_
  ·intro w' hC hks;exact Zdj _ w'
  simp only [Pu]
  refine Zv 45 #[.agg #[.int .i64 4,.string ⟨#[97,98]⟩,.int .i64 0,.int .i64 0,.int .i64 0,.slice LA ln lc,.slice BA bn bc],.agg #[.int .i64 4,.string ⟨#[97,98]⟩,.int .i64 0,.int .i64 0,.int .i64 0,.slice none 0 0,.slice none 0 0]] (.bool true) (by rfl) (by intro w' hC;clear hC;go_simp) ?_ ?_
  ·intro w' hC hks;exact HSR.out w'
  simp only [Pu]
  iterate 31
   refine f_val _ (by rfl) ?_ ?_
   ·intro w' hC;clear hC;go_simp
   simp only [Pu]
  refine Zig (F:=isO W.heap.size 2 [2,3]) 35 #[.pointer (some ⟨l,0,none⟩)] (by rfl) (by intro w' hC;clear hC;go_simp) ?_ ?_
  ·intro w' hC hks;exact HSEG.out w' (Grows.trans HG18.out hC)
  rintro ⟨As,cs⟩
  dsimp only [isO]
  simp only [Pu]
  refine Zve (3) (#[.int .i64 2,.int .i64 3]) 2 (by rfl) ?_ ?_
  ·intro w' hC;clear hC;go_simp
  intro g2
  simp only [Pu]
  refine Zv 34 #[.slice As 2 cs,.slice (some ⟨g2,0,none⟩) 2 2] (.bool true) (by rfl) (by intro w' hC;clear hC;go_simp) ?_ ?_
  ·intro w' hC hks;exact HSIN.out w' As cs g2 (Known.get hks 1 rfl rfl) (Known.get hks 0 rfl rfl)
  simp only [Pu]
  iterate 2
   refine f_val _ (by rfl) ?_ ?_
   ·intro w' hC;clear hC;go_simp
   simp only [Pu]
  refine Zs ?_
  intro w20 hC hks
  have HCw20:=hid hC
  clear hC hks
  go_wp2_with (fail)
  go_ret
  exact ⟨rfl,Grows.trans (Grows.trans HLOW.out HG18.out) HCw20.out⟩
end Go.Proofs.YtkelafkbmnjpeaaGreat
