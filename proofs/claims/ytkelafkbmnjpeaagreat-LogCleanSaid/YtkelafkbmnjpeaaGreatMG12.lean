/-
  Texts that the statements lean on, one behind the other.
-/
import Derived.Test.YtkelafkbmnjpeaaGreatMG11
import Derived.Lib.LazyBuf
import Derived.Test.YtkelafkbmnjpeaaGreatMG10
import Derived.Test.YtkelafkbmnjpeaaGreatMG01
import Derived.Laws.AppendOwn
namespace Go.Proofs.YtkelafkbmnjpeaaGreat
open Go.Lib (hid)
open Go.RowKit

theorem Zbv (s:Src) (n:Int):(takeS s n).1.length≤s.1.length∧(takeS s n).2.1.length≤s.1.length:=by
 unfold takeS
 split
 ·simp
 ·simp;omega
theorem Yr (s:Src) (n:Int):(numS s n).2.1.length≤s.1.length:=(Zbv s n).2
theorem Zmj (s:Src) (n:Int):∃ k:Nat,(numS s n).1=(k:Int):=⟨(valB (takeS s n).1).toNat,by have:=(J0 (takeS s n).1).1;show valB _=_;omega⟩
theorem Zvf (s:Src) (k:Nat) (h:k≤6):(numS s (k:Int)).1 < 281474976710656:=(Y5 _ (by
 unfold takeS
 split
 ·simp
 ·simp;omega)).2
theorem At.up {w w':World} {g:Nat} {s:Src} (h:At w g s) (hg:Grows w w'):At w' g s:=by
 obtain ⟨A,n,c,hw,hl⟩:=h
 exact ⟨A,n,c,hg.whole hw,hl.carry (Below.mono hg (Nat.le_of_lt hw.lt))⟩
theorem At.lt {w:World} {g:Nat} {s:Src} (h:At w g s):g < w.heap.size:=by
 obtain ⟨A,n,c,hw,hl⟩:=h
 exact hw.lt

theorem Zh9 (g:Nat) (s:Src) (w:World) (h:At w g s) (hs:s.1.length≤140737488351232) :
 Calls Tryz.prog 276 #[.pointer (some ⟨g,0,none⟩)] w fun e w'=>∃ A m c,e=.returned (.slice A m c)∧Low w' g A m c (restS s).1∧At w' g (restS s).2∧Turns g w w':=by
 have HT:=hid (Zia g s s.1.length w h (by omega) hs)
 obtain ⟨A,m,c,hw,hl⟩:=h
 have c0:=hw.cell 0
 simp only [Gt] at c0
 have hlen:=Bytes.len hl.bytes
 unfold restS
 rw [hlen]
 rw [hlen] at HT
 clear hw hl
 go_enter Tryz.func276,Tryz.ntmps276
 go_wp2_with (fail)
 refine HT.out.mono ?_
 rintro e w1 ⟨A1,m1,c1,rfl,hr⟩
 have HR:=hid hr
 clear hr
 go_wp2_with (fail)
 go_ret
 exact ⟨A1,m1,c1,rfl,HR.out⟩

theorem Zha (g:Nat) (s:Src) (w:World) (h:At w g s) :
 Calls Tryz.prog 226 #[.pointer (some ⟨g,0,none⟩)] w fun e w'=>e=.returned (.bool (decide (s.2=false∧s.1=[])))∧w=w':=by
 obtain ⟨A,m,c,hw,hl⟩:=h
 have c0:=hw.cell 0
 have c1:=hw.cell 1
 simp only [Gt] at c0 c1
 have hlen:=Bytes.len hl.bytes
 obtain ⟨bs,short⟩:=s
 dsimp only at *
 have hm:(m=0)↔bs=[]:=by rw [←hlen];exact List.length_eq_zero_iff
 clear hw hl
 cases short with
 | true =>
   go_enter Tryz.func226,Tryz.ntmps226
   go_wp2_with (fail)
   go_ret
   exact ⟨rfl,rfl⟩
 | false =>
   have HM:=hid hm
   clear hm
   go_enter Tryz.func226,Tryz.ntmps226
   go_wp2_with (fail)
   go_ret
   refine ⟨Zu ?_,rfl⟩
   rw [Bool.eq_iff_iff]
   have:=HM.out
   simp [←this]

theorem Zhb (A:Option Addr) (n c:Nat) (bs:List UInt8) (w:World) (hs:Sl w A n c bs) (hn:n≤140737488351232) :
 Calls Tryz.prog 225 #[.slice A n c] w fun e w'=>∃ A' m c',e=.returned (.slice A' m c')∧w'.ownsRow w.heap.size 5 1 (.slice A' m c') m (bs.map byteV)∧Below w.heap.size w w':=by
 have HS:=hid hs
 have hlen:=hs.len
 have heq:=fun (a:Option Addr) (l c:Nat) (w:World)=>Go.run_eql_slice_nil (P:=Tryz.prog) w 37 5 a l c Tryz.underlying37
 clear hs
 cases A with
 | none =>
   have hc:=HS.out.bare rfl
   have hcap:=HS.out.cap
   have hb:bs=[]:=List.eq_nil_of_length_eq_zero (by omega)
   subst hb
   go_enter Tryz.func225,Tryz.ntmps225
   go_wp2_with (fail)
   go_ret
   exact ⟨none,0,0,rfl,World.ownsRow_nil _ _ _ _,Below.refl _ _⟩
 | some ad =>
   go_enter Tryz.func225,Tryz.ntmps225
   go_wp2_with (at_builtin
                refine Za3 isSl_bytes isSl_bytes rfl (.tmp 5) (.tmp 6) rfl (base:=w.heap.size) rfl (Zni w) rfl (HS.out.alloc _) n (Nat.zero_add n) hn (Zc5 _ _) ?_
                intro A2 c2 w2 ho2 hb2 hs2
                have HO2:=hid ho2
                have HB2:=hid (Below.trans (Za w _) hb2)
                clear ho2 hb2 hs2)
   go_ret
   exact ⟨A2,n,c2,rfl,by simpa using HO2.out,HB2.out⟩

theorem Zmk (g:Nat) (s:Src) (w:World) (h:At w g s) (hs:s.1.length≤140737488351232) :
 Calls Tryz.prog 279 #[.pointer (some ⟨g,0,none⟩)] w fun e w'=>e=.returned (.string ⟨(keyS s).1.toArray⟩)∧At w' g (keyS s).2∧Turns g w w':=by
 have h1:=Za2 g s 1 w h (by omega) hs
 have h2:=fun w1 (h:At w1 g (numS s 1).2) (n:Nat) (hn:n≤9223372036854775807)=>Zia g (numS s 1).2 n w1 h hn (Nat.le_trans (Yr s 1) hs)
 have hlt:=Zvf s 1 (by omega)
 obtain ⟨k,hk⟩:=Zmj s 1
 unfold keyS
 rw [show ((1:Nat):Int)=1 from rfl] at h1 hlt
 rw [hk] at h1 hlt
 rw [hk]
 generalize (numS s 1).2=s1 at *
 have H1:=hid h1
 have H2:=hid h2
 clear h1 h2 h hk
 go_enter Tryz.func279,Tryz.ntmps279
 go_wp2_with (fail)
 refine H1.out.mono ?_
 rintro e w1 ⟨rfl,ha,ht⟩
 have HA:=hid (And.intro ha ht)
 clear ha ht
 go_wp2_with (fail)
 refine (H2.out w1 HA.out.1 k (by omega)).mono ?_
 rintro e w2 ⟨A,m,c,rfl,hl,ha2,ht2⟩
 have hst:=Z5 (hl.sl (Nat.le_of_lt ha2.lt))
 have HA2:=hid (And.intro ha2 (HA.out.2.trans ht2))
 clear hl ha2 ht2
 go_wp2_with (fail)
 go_ret
 exact ⟨rfl,HA2.out⟩
end Go.Proofs.YtkelafkbmnjpeaaGreat

namespace Go.Proofs.YtkelafkbmnjpeaaGreat
open Go.RowKit

def lcV (l:Lc):List Value:=[.int .i64 l.1,.int .i64 l.2.1,.int .i64 l.2.2]
def lcCells:List Lc→List Value
 | []=>[]
 | l :: ls=>lcV l++lcCells ls
theorem lcCells_length:∀ ls:List Lc,(lcCells ls).length=3*ls.length
 | []=>rfl
 | l :: ls=>by
   rw [lcCells,List.length_append,lcCells_length ls,List.length_cons]
   show 3+_=_
   omega
theorem lcCells_append:∀ a b:List Lc,lcCells (a++b)=lcCells a++lcCells b
 | [],_=>rfl
 | l :: a,b=>by rw [List.cons_append,lcCells,lcCells,lcCells_append a b,List.append_assoc]
theorem lcCells_get:∀ (ls:List Lc) (i:Nat) (l:Lc),ls[i]?=some l →
 (lcCells ls)[3*i]?=some (.int .i64 l.1)∧(lcCells ls)[3*i+1]?=some (.int .i64 l.2.1)∧(lcCells ls)[3*i+2]?=some (.int .i64 l.2.2)
 | l :: ls,0,_,h=>by
   simp only [List.getElem?_cons_zero,Option.some.injEq] at h
   subst h
   exact ⟨rfl,rfl,rfl⟩
 | l :: ls,i+1,l',h=>by
   obtain ⟨h1,h2,h3⟩:=lcCells_get ls i l' (by simpa using h)
   have e:∀ k,(lcV l++lcCells ls)[3+k]?=(lcCells ls)[k]?:=fun k=>by
    rw [List.getElem?_append_right (by simp [lcV])]
    simp [lcV]
   refine ⟨?_,?_,?_⟩
   ·rw [show 3*(i+1)=3+3*i by omega];exact (e _).trans h1
   ·rw [show 3*(i+1)+1=3+(3*i+1) by omega];exact (e _).trans h2
   ·rw [show 3*(i+1)+2=3+(3*i+2) by omega];exact (e _).trans h3
 | [],i,_,h=>by simp at h

structure Locs (w:World) (A:Option Addr) (n c:Nat) (ls:List Lc):Prop where
 len:ls.length=n
 cap:n≤c
 bare:A=none→c=0
 row:Row w w.heap.size A (3*n) (lcCells ls)
theorem Locs.grow {w w':World} {A:Option Addr} {n c:Nat} {ls:List Lc} (hg:Grows w w') (h:Locs w A n c ls):Locs w' A n c ls:=⟨h.len,h.cap,h.bare,hg.row h.row⟩
theorem Locs.nil (w:World):Locs w none 0 0 []:=⟨rfl,Nat.le_refl _,fun _=>rfl,Row.nil _ _ _⟩
theorem Locs.spot {w:World} {A:Option Addr} {n c:Nat} {ls:List Lc} (h:Locs w A n c ls) {i:Nat} (hi:i < n) :
 ∃ ad,A=some ad∧(∀ w',Grows w w'→w'.cell? (ad.add (i*3))=some (.int .i64 (ls.getD i (0,0,0)).1)) ∧
  (∀ w',Grows w w'→w'.cell? { block:=(ad.add (i*3)).block,off:=(ad.add (i*3)).off+1 }=some (.int .i64 (ls.getD i (0,0,0)).2.1)) ∧
  (∀ w',Grows w w'→w'.cell? { block:=(ad.add (i*3)).block,off:=(ad.add (i*3)).off+2 }=some (.int .i64 (ls.getD i (0,0,0)).2.2)):=by
 have hl:=h.len
 have ht:ls[i]?=some (ls.getD i (0,0,0)):=by
  rw [List.getElem?_eq_getElem (by omega)]
  simp [show i < ls.length by omega]
 obtain ⟨g1,g2,g3⟩:=lcCells_get ls i _ ht
 obtain ⟨ad,hA,_,c1⟩:=h.row.spot _ _ g1
 obtain ⟨ad2,hA2,_,c2⟩:=h.row.spot _ _ g2
 obtain ⟨ad3,hA3,_,c3⟩:=h.row.spot _ _ g3
 rw [hA] at hA2 hA3
 injection hA2 with hA2
 injection hA3 with hA3
 subst hA2 hA3
 have e1:ad.add (3*i)=ad.add (i*3):=by rw [Nat.mul_comm]
 have e2:ad.add (3*i+1)={ block:=(ad.add (i*3)).block,off:=(ad.add (i*3)).off+1 }:=by rw [Nat.mul_comm,←Jg,Addr.add_succ' (ad.add (i*3)) 0]
 have e3:ad.add (3*i+2)={ block:=(ad.add (i*3)).block,off:=(ad.add (i*3)).off+2 }:=by rw [Nat.mul_comm,←Jg,Addr.add_succ' (ad.add (i*3)) 1]
 have up:∀ (p:Addr) (v:Value),w.cell? p=some v→∀ w',Grows w w'→w'.cell? p=some v:=fun p v hp w' hg=>(hg.cell (World.block_lt_of_cell? w _ hp)).trans hp
 rw [e1] at c1
 rw [e2] at c2
 rw [e3] at c3
 exact ⟨ad,hA,up _ _ c1,up _ _ c2,up _ _ c3⟩
theorem Locs.owned {w:World} {base:Nat} {e:TypeId} {A:Option Addr} {n c:Nat} {ls:List Lc} (hn:ls.length=n) (h:w.ownsRow base e 3 (.slice A n c) n (lcCells ls)):Locs w A n c ls:=by
 refine ⟨hn,?_,?_,?_⟩
 ·rcases h.2 with ⟨h1,h2⟩ | ⟨g,cap,_,h1,_,_,h2,_⟩
  ·omega
  ·injection h1 with _ _ h1;omega
 ·intro hA
  rcases h.2 with ⟨h1,h2⟩ | ⟨g,cap,_,h1,_⟩
  ·injection h1
  ·injection h1 with h1 _ _;rw [hA] at h1;cases h1
 ·refine ⟨by rw [lcCells_length,hn],fun k v hv=>?_⟩
  have hpos:0 < n:=by
   rcases Nat.eq_zero_or_pos n with h0 | h0
   ·subst h0
    have:lcCells ls=[]:=List.eq_nil_of_length_eq_zero (by rw [lcCells_length,hn])
    rw [this] at hv
    simp at hv
   ·exact h0
  obtain ⟨g,cap,hval,_,hlt⟩:=h.form hpos
  injection hval with hA _ _
  subst hA
  exact ⟨_,rfl,hlt,h.cells (g:=g) rfl k v hv⟩

structure RcIn (w:World) (LA:Option Addr) (ln lc:Nat) (BA:Option Addr) (bn bc:Nat) (r:Rc):Prop where
 locs:Locs w LA ln lc r.locs
 sl:Sl w BA bn bc r.b
theorem RcIn.grow {w w':World} {LA:Option Addr} {ln lc:Nat} {BA:Option Addr} {bn bc:Nat} {r:Rc} (hg:Grows w w') (h:RcIn w LA ln lc BA bn bc r):RcIn w' LA ln lc BA bn bc r:=⟨h.locs.grow hg,h.sl.grow hg⟩

theorem sumN_append:∀ a b:List Lc,sumN (a++b)=sumN a+sumN b
 | [],b=>by simp [sumN]
 | l :: a,b=>by rw [List.cons_append,sumN,sumN,sumN_append a b];omega
theorem Zib (ls:List Lc) (k:Nat) (h:k < ls.length):ls.take (k+1)=ls.take k++[ls.getD k (0,0,0)]:=by
 rw [List.take_succ_eq_append_getElem h]
 simp [h]
def Seen (ls:List Lc) (k:Nat) (s:Int):Prop:=(∀ l∈ls.take k,LocOk l)∧sumN (ls.take k)=s
theorem Seen.start (ls:List Lc):Seen ls 0 0:=⟨fun l h=>by simp at h,by simp [sumN]⟩
theorem Seen.next {ls:List Lc} {k:Nat} {s:Int} (h:Seen ls k s) (hk:k < ls.length) (ho:LocOk (ls.getD k (0,0,0))):Seen ls (k+1) (s+(ls.getD k (0,0,0)).2.2):=by
 unfold Seen
 rw [Zib ls k hk]
 refine ⟨fun l hl=>?_,?_⟩
 ·rcases List.mem_append.1 hl with hl | hl
  ·exact h.1 l hl
  ·rw [List.mem_singleton] at hl
   rw [hl];exact ho
 ·rw [sumN_append,h.2]
  simp [sumN]
theorem Seen.ill {ls:List Lc} {k:Nat} (hk:k < ls.length) (ho:¬ LocOk (ls.getD k (0,0,0))) (z:Int):¬ Zbs ls z:=fun h=>ho (h.2.1 _ (by
 rw [List.getD_eq_getElem?_getD,List.getElem?_eq_getElem hk]
 exact List.getElem_mem hk))
theorem Seen.all {ls:List Lc} {s:Int} (h:Seen ls ls.length s) (hn:ls.length≤512) (z:Int):Zbs ls z↔s=z:=by
 obtain ⟨h1,h2⟩:=h
 rw [List.take_length] at h1 h2
 exact ⟨fun h=>h2 ▸ h.2.2,fun h=>⟨hn,h1,h2.trans h⟩⟩
theorem Zqb {ls:List Lc} (h:∀ l∈ls,LocOk l):0≤sumN ls∧sumN ls≤4096*(ls.length:Int):=by
 induction ls with
 | nil=>simp [sumN]
 | cons l ls ih =>
   have h1:=h l (by simp)
   have h2:=ih fun x hx=>h x (by simp [hx])
   unfold LocOk at h1
   rw [sumN,List.length_cons]
   omega
theorem Seen.bound {ls:List Lc} {k:Nat} {s:Int} (h:Seen ls k s):0≤s∧s≤4096*(k:Int):=by
 have h1:=Zqb h.1
 rw [h.2,List.length_take] at h1
 have:((min k ls.length:Nat):Int)≤k:=by omega
 omega
end Go.Proofs.YtkelafkbmnjpeaaGreat

set_option maxHeartbeats 4000000
set_option maxRecDepth 100000
namespace Go.Proofs.YtkelafkbmnjpeaaGreat
open Go.Lib (hid)
open Go.RowKit

theorem Turns.whole {g k t:Nat} {w w':World} {cs:Array Value} (h:Turns g w w') (hw:Whole w k t cs) (hk:k≠g):Whole w' k t cs:=by
 unfold Whole
 rw [h.block k hw.lt (fun e=>hk (by injection e))]
 exact hw
theorem Turns.then {g:Nat} {w w1 W:World} (h:Turns g w w1) (hb:Below w.heap.size w1 W):Turns g w W :=
 ⟨hb.os.trans h.os,hb.tape.trans h.tape,hb.output.trans h.output,Nat.le_trans h.size hb.size,fun k hk hne=>(hb.block k hk).trans (h.block k hk hne)⟩
theorem At.under {g k:Nat} {w W:World} {s:Src} (h:At w g s) (hb:Below k w W) (hk:g < k):At W g s:=by
 obtain ⟨A,n,c,hw,hl⟩:=h
 exact ⟨A,n,c,hw.below hb hk,hl.carry (Below.mono hb (Nat.le_of_lt hk))⟩
structure RcOwn (w:World) (base:Nat) (LA:Option Addr) (ln lc:Nat) (BA:Option Addr) (bn bc:Nat) (r:Rc):Prop where
 locs:w.ownsRow base 140 3 (.slice LA ln lc) ln (lcCells r.locs)
 len:r.locs.length=ln
 b:w.ownsRow base 5 1 (.slice BA bn bc) bn (r.b.map byteV)
theorem RcOwn.inn {w:World} {base:Nat} {LA:Option Addr} {ln lc:Nat} {BA:Option Addr} {bn bc:Nat} {r:Rc} (h:RcOwn w base LA ln lc BA bn bc r):RcIn w LA ln lc BA bn bc r:=⟨Locs.owned h.len h.locs,Sl.owned h.b⟩
theorem RcOwn.grow {w w':World} {base:Nat} {LA:Option Addr} {ln lc:Nat} {BA:Option Addr} {bn bc:Nat} {r:Rc} (h:RcOwn w base LA ln lc BA bn bc r) (hg:Grows w w'):RcOwn w' base LA ln lc BA bn bc r:=⟨Zd h.locs hg,h.len,Zd h.b hg⟩
theorem RcOwn.nil (w:World) (base:Nat) (k:Int) (s:List UInt8) (id no size:Int):RcOwn w base none 0 0 none 0 0 ⟨k,s,id,no,size,[],[]⟩:=⟨World.ownsRow_nil _ _ _ _,rfl,World.ownsRow_nil _ _ _ _⟩
theorem Ji {w:World} {k t:Nat} {u0 u1 u2 u3 u4 u5 u6:Value} (h:Whole w k t #[u0,u1,u2,u3,u4,u5,u6]) (v0 v1 v2 v3 v4 v5 v6:Value) :
 ∃ W,(((((((w.setCell ⟨k,0,none⟩ v0).setCell ⟨k,1,none⟩ v1).setCell ⟨k,2,none⟩ v2).setCell ⟨k,3,none⟩ v3).setCell ⟨k,4,none⟩ v4).setCell ⟨k,5,none⟩ v5).setCell ⟨k,6,none⟩ v6)=W∧Whole W k t #[v0,v1,v2,v3,v4,v5,v6]∧Turns k w W :=
 ⟨_,rfl,by
  have hp:=((((((h.put 0 v0).put 1 v1).put 2 v2).put 3 v3).put 4 v4).put 5 v5).put 6 v6
  simp only [List.setIfInBounds_toArray,List.set_cons_zero,List.set_cons_succ] at hp
  exact hp,((((((Turns.set 0 v0).trans (Turns.set 1 v1)).trans (Turns.set 2 v2)).trans (Turns.set 3 v3)).trans (Turns.set 4 v4)).trans (Turns.set 5 v5)).trans (Turns.set 6 v6)⟩
theorem Ju {k base:Nat} {w W:World} {e size:Nat} {v:Value} {n:Nat} {xs:List Value} (h:w.ownsRow base e size v n xs) (ht:Turns k w W) (hk:k < base):W.ownsRow base e size v n xs :=
 h.kept ht (by
  rcases h.2 with ⟨rfl,_⟩ | ⟨g,cap,cur,rfl,hg,_⟩
  ·exact .inl rfl
  ·exact .inr (fun e=>by simp [Value.ownBlock] at e;omega))
theorem RcOwn.turn {w W:World} {k base:Nat} {LA:Option Addr} {ln lc:Nat} {BA:Option Addr} {bn bc:Nat} {r:Rc} (h:RcOwn w base LA ln lc BA bn bc r) (ht:Turns k w W) (hk:k < base):RcOwn W base LA ln lc BA bn bc r:=⟨Ju h.locs ht hk,h.len,Ju h.b ht hk⟩
theorem RcOwn.from {w:World} {b1 base:Nat} {LA:Option Addr} {ln lc:Nat} {BA:Option Addr} {bn bc:Nat} {r:Rc} (h:RcOwn w b1 LA ln lc BA bn bc r) (hb:base≤b1):RcOwn w base LA ln lc BA bn bc r:=⟨Zg h.locs hb,h.len,Zg h.b hb⟩

theorem Zs1 (g:Nat) (s:Src) (w:World) (h:At w g s) (hs:s.1.length≤140737488351232) :
 Calls Tryz.prog 224 #[.pointer (some ⟨g,0,none⟩)] w fun e w'=>∃ LA ln lc BA bn bc,e=.returned (.agg #[.int .i64 0,.string ⟨(tombS s).1.key.toArray⟩,.int .i64 (tombS s).1.id,.int .i64 (tombS s).1.no,.int .i64 (tombS s).1.size,.slice LA ln lc,.slice BA bn bc])∧RcOwn w' w.heap.size LA ln lc BA bn bc (tombS s).1∧At w' g (tombS s).2∧Turns g w w':=by
 have hg:=h.lt
 have H1:=hid (Zh9 g s (w.alloc (.cells #[.int .i64 0,.string ⟨#[]⟩,.int .i64 0,.int .i64 0,.int .i64 0,.slice none 0 0,.slice none 0 0] 196)) (h.up (Za _ _)) hs)
 have hz0:=Whole.made w 196 #[.int .i64 0,.string ⟨#[]⟩,.int .i64 0,.int .i64 0,.int .i64 0,.slice none 0 0,.slice none 0 0]
 have HZ:=hid hz0
 clear h hz0
 unfold tombS
 dsimp only
 generalize restS s=r at *
 go_enter Tryz.func224,Tryz.ntmps224
 go_wp2_with (fail)
 refine H1.out.mono ?_
 rintro e w1 ⟨A,m,c,rfl,hl,ha,ht⟩
 have hst:=Z5 (hl.sl (Nat.le_of_lt ha.lt))
 have hz:=ht.whole HZ.out (by omega)
 have HZ1:=hid hz
 have HA:=hid (And.intro ha (Turns.trans (Turns.grow (Za _ _)) ht))
 have zc0:=hz.cell 0
 have zf0:=hz.free 0
 have zc1:=hz.cell 1
 have zf1:=hz.free 1
 have zc2:=hz.cell 2
 have zf2:=hz.free 2
 have zc3:=hz.cell 3
 have zf3:=hz.free 3
 have zc4:=hz.cell 4
 have zf4:=hz.free 4
 have zc5:=hz.cell 5
 have zf5:=hz.free 5
 have zc6:=hz.cell 6
 have zf6:=hz.free 6
 simp only [Gt] at zc0 zc1 zc2 zc3 zc4 zc5 zc6
 clear hl ha ht hz
 go_wp2_with (fail)
 obtain ⟨W,hW,hwh,hwt⟩:=Ji HZ1.out (.int .i64 0) (.string ⟨r.1.toArray⟩) (.int .i64 0) (.int .i64 0) (.int .i64 0) (.slice none 0 0) (.slice none 0 0)
 rw [hW]
 have HWB:=hid (And.intro hwt (hwt.below (by have:=HZ1.out.lt;omega)))
 clear hW hwt
 refine bodyPost_ret (results_cell_row rfl _ _ w.heap.size _ _ (0,0) _ rfl hwh Tryz.underlying196 rfl (by kernel_rfl)) rfl ?_
 exact ⟨none,0,0,none,0,0,rfl,RcOwn.nil _ _ _ _ _ _ _,HA.out.1.under HWB.out.2 hg,HA.out.2.then HWB.out.2⟩

theorem Znr (g:Nat) (s:Src) (w:World) (h:At w g s) (hs:s.1.length≤140737488351232) :
 Calls Tryz.prog 221 #[.pointer (some ⟨g,0,none⟩)] w fun e w'=>∃ LA ln lc BA bn bc,e=.returned (.agg #[.int .i64 0,.string ⟨(Y4 s).1.key.toArray⟩,.int .i64 (Y4 s).1.id,.int .i64 (Y4 s).1.no,.int .i64 (Y4 s).1.size,.slice LA ln lc,.slice BA bn bc])∧RcOwn w' w.heap.size LA ln lc BA bn bc (Y4 s).1∧At w' g (Y4 s).2∧Turns g w w':=by
 have hg:=h.lt
 have hks:(keyS s).2.1.length≤s.1.length:=Nat.le_trans (Zbv _ _).2 (Yr s 1)
 have H1:=hid (Zmk g s (w.alloc (.cells #[.int .i64 0,.string ⟨#[]⟩,.int .i64 0,.int .i64 0,.int .i64 0,.slice none 0 0,.slice none 0 0] 196)) (h.up (Za _ _)) hs)
 have hr:=fun (w1:World) (h:At w1 g (keyS s).2)=>Zh9 g (keyS s).2 w1 h (by omega)
 have hrl:(restS (keyS s).2).1.length≤s.1.length:=Nat.le_trans (Zbv _ _).1 hks
 have HZ:=hid (Whole.made w 196 #[.int .i64 0,.string ⟨#[]⟩,.int .i64 0,.int .i64 0,.int .i64 0,.slice none 0 0,.slice none 0 0])
 have HR:=hid hr
 clear h hr
 unfold Y4
 dsimp only
 generalize restS (keyS s).2=r at *
 generalize keyS s=k at *
 go_enter Tryz.func221,Tryz.ntmps221
 go_wp2_with (fail)
 refine (H1.out).mono ?_
 rintro e w1 ⟨rfl,ha1,ht1⟩
 have HZ1:=hid (ht1.whole HZ.out (by omega))
 have HA1:=hid (And.intro ha1 (Turns.trans (Turns.grow (Za _ _)) ht1))
 clear ha1 ht1
 go_wp2_with (fail)
 refine (HR.out w1 HA1.out.1).mono ?_
 rintro e w2 ⟨A2,m2,c2,rfl,hl2,ha2,ht2⟩
 have hlen:=Bytes.len hl2.bytes
 have HS2:=hid (hl2.sl (Nat.le_of_lt ha2.lt))
 have HA2:=hid (And.intro ha2 (HA1.out.2.trans ht2))
 have HZ2:=hid (ht2.whole HZ1.out (by omega))
 clear hl2 ha2 ht2
 go_wp2_with (fail)
 refine (Zhb A2 m2 c2 _ w2 HS2.out (by omega)).mono ?_
 rintro e w3 ⟨A3,m3,c3,rfl,ho,hb⟩
 have hz:=Grows.whole hb HZ2.out
 have HZ3:=hid hz
 have HA3:=hid (And.intro (HA2.out.1.up hb) (HA2.out.2.trans (Turns.grow hb)))
 have HO:=hid (And.intro ho HZ2.out.lt)
 have zc0:=hz.cell 0
 have zf0:=hz.free 0
 have zc1:=hz.cell 1
 have zf1:=hz.free 1
 have zc2:=hz.cell 2
 have zf2:=hz.free 2
 have zc3:=hz.cell 3
 have zf3:=hz.free 3
 have zc4:=hz.cell 4
 have zf4:=hz.free 4
 have zc5:=hz.cell 5
 have zf5:=hz.free 5
 have zc6:=hz.cell 6
 have zf6:=hz.free 6
 simp only [Gt] at zc0 zc1 zc2 zc3 zc4 zc5 zc6
 clear ho hb hz
 go_wp2_with (fail)
 obtain ⟨W,hW,hwh,hwt⟩:=Ji HZ3.out (.int .i64 0) (.string ⟨k.1.toArray⟩) (.int .i64 0) (.int .i64 0) (.int .i64 0) (.slice none 0 0) (.slice A3 m3 c3)
 rw [hW]
 have HWB:=hid (And.intro hwt (hwt.below (by have:=HZ3.out.lt;omega)))
 clear hW hwt
 refine bodyPost_ret (results_cell_row rfl _ _ w.heap.size _ _ (0,0) _ rfl hwh Tryz.underlying196 rfl (by kernel_rfl)) rfl ?_
 exact ⟨none,0,0,A3,m3,c3,rfl,⟨World.ownsRow_nil _ _ _ _,rfl,Zg (Ju HO.out.1 HWB.out.1 HO.out.2) HA2.out.2.size⟩,HA3.out.1.under HWB.out.2 hg,HA3.out.2.then HWB.out.2⟩

theorem Zp9 (g:Nat) (s:Src) (w:World) (h:At w g s) (hs:s.1.length≤140737488351232) :
 Calls Tryz.prog 215 #[.pointer (some ⟨g,0,none⟩)] w fun e w'=>∃ LA ln lc BA bn bc,e=.returned (.agg #[.int .i64 0,.string ⟨(Zac s).1.key.toArray⟩,.int .i64 (Zac s).1.id,.int .i64 (Zac s).1.no,.int .i64 (Zac s).1.size,.slice LA ln lc,.slice BA bn bc])∧RcOwn w' w.heap.size LA ln lc BA bn bc (Zac s).1∧At w' g (Zac s).2∧Turns g w w':=by
 have hg:=h.lt
 have h6:=Yr s 6
 have h2:=Yr (numS s 6).2 2
 have H1:=hid (Za2 g s 6 (w.alloc (.cells #[.int .i64 0,.string ⟨#[]⟩,.int .i64 0,.int .i64 0,.int .i64 0,.slice none 0 0,.slice none 0 0] 196)) (h.up (Za _ _)) (by omega) hs)
 have H2:=hid (fun (w1:World) (h:At w1 g (numS s 6).2)=>Za2 g (numS s 6).2 2 w1 h (by omega) (by omega))
 have hr:=fun (w1:World) (h:At w1 g (numS (numS s 6).2 2).2)=>Zh9 g (numS (numS s 6).2 2).2 w1 h (by omega)
 have hrl:(restS (numS (numS s 6).2 2).2).1.length≤s.1.length:=Nat.le_trans (Zbv _ _).1 (by omega)
 have HZ:=hid (Whole.made w 196 #[.int .i64 0,.string ⟨#[]⟩,.int .i64 0,.int .i64 0,.int .i64 0,.slice none 0 0,.slice none 0 0])
 have HR:=hid hr
 clear h hr h6 h2
 unfold Zac
 dsimp only
 rw [show ((6:Nat):Int)=6 from rfl] at H1
 rw [show ((2:Nat):Int)=2 from rfl] at H2
 generalize restS (numS (numS s 6).2 2).2=r at *
 generalize numS (numS s 6).2 2=y at *
 generalize numS s 6=x at *
 go_enter Tryz.func215,Tryz.ntmps215
 go_wp2_with (fail)
 refine (H1.out).mono ?_
 rintro e w1 ⟨rfl,ha1,ht1⟩
 have HZ1:=hid (ht1.whole HZ.out (by omega))
 have HA1:=hid (And.intro ha1 (Turns.trans (Turns.grow (Za _ _)) ht1))
 clear ha1 ht1
 go_wp2_with (fail)
 refine (H2.out w1 HA1.out.1).mono ?_
 rintro e w2 ⟨rfl,ha2,ht2⟩
 have HZ2:=hid (ht2.whole HZ1.out (by omega))
 have HA2:=hid (And.intro ha2 (HA1.out.2.trans ht2))
 clear ha2 ht2
 go_wp2_with (fail)
 refine (HR.out w2 HA2.out.1).mono ?_
 rintro e w3 ⟨A3,m3,c3,rfl,hl3,ha3,ht3⟩
 have hlen:=Bytes.len hl3.bytes
 have HS3:=hid (hl3.sl (Nat.le_of_lt ha3.lt))
 have HA3:=hid (And.intro ha3 (HA2.out.2.trans ht3))
 have HZ3:=hid (ht3.whole HZ2.out (by omega))
 clear hl3 ha3 ht3
 go_wp2_with (fail)
 refine (Zhb A3 m3 c3 _ w3 HS3.out (by omega)).mono ?_
 rintro e w4 ⟨A4,m4,c4,rfl,ho,hb⟩
 have hz:=Grows.whole hb HZ3.out
 have HZ4:=hid hz
 have HA4:=hid (And.intro (HA3.out.1.up hb) (HA3.out.2.trans (Turns.grow hb)))
 have HO:=hid (And.intro ho HZ3.out.lt)
 have zc0:=hz.cell 0
 have zf0:=hz.free 0
 have zc1:=hz.cell 1
 have zf1:=hz.free 1
 have zc2:=hz.cell 2
 have zf2:=hz.free 2
 have zc3:=hz.cell 3
 have zf3:=hz.free 3
 have zc4:=hz.cell 4
 have zf4:=hz.free 4
 have zc5:=hz.cell 5
 have zf5:=hz.free 5
 have zc6:=hz.cell 6
 have zf6:=hz.free 6
 simp only [Gt] at zc0 zc1 zc2 zc3 zc4 zc5 zc6
 clear ho hb hz
 go_wp2_with (fail)
 obtain ⟨W,hW,hwh,hwt⟩:=Ji HZ4.out (.int .i64 0) (.string ⟨#[]⟩) (.int .i64 x.1) (.int .i64 y.1) (.int .i64 0) (.slice none 0 0) (.slice A4 m4 c4)
 rw [hW]
 have HWB:=hid (And.intro hwt (hwt.below (by have:=HZ4.out.lt;omega)))
 clear hW hwt
 refine bodyPost_ret (results_cell_row rfl _ _ w.heap.size _ _ (0,0) _ rfl hwh Tryz.underlying196 rfl (by kernel_rfl)) rfl ?_
 exact ⟨none,0,0,A4,m4,c4,rfl,⟨World.ownsRow_nil _ _ _ _,rfl,Zg (Ju HO.out.1 HWB.out.1 HO.out.2) HA3.out.2.size⟩,HA4.out.1.under HWB.out.2 hg,HA4.out.2.then HWB.out.2⟩
end Go.Proofs.YtkelafkbmnjpeaaGreat

set_option maxHeartbeats 8000000
set_option maxRecDepth 100000
namespace Go.Proofs.YtkelafkbmnjpeaaGreat
open Go.Lib (hid)
open Go.RowKit

theorem infoLoc:(Tryz.prog.info? 140).map (fun i=>(i.zero,i.size,i.bytes))=some (some (.agg #[.int .i64 0,.int .i64 0,.int .i64 0]),3,24):=by kernel_rfl
theorem Zv5 {w:World} {g ty:Nat} {l:Lc} (hw:Whole w g ty #[.int .i64 l.1,.int .i64 l.2.1,.int .i64 l.2.2]):∀ j u,(lcV l)[j]?=some u→w.cell? ((⟨g,0,none⟩:Addr).add j)=some u:=by
 intro j u hj
 rw [show (⟨g,0,none⟩:Addr).add j=⟨g,j,none⟩ by unfold Addr.add;split <;> simp_all,hw.cell j]
 simpa [lcV] using hj
theorem Zvg (l:Lc):∀ u∈lcV l,u.oneCell'=true:=by
 intro u hu
 simp only [lcV,List.mem_cons,List.not_mem_nil,or_false] at hu
 rcases hu with rfl | rfl | rfl <;> rfl
theorem Zk4 {w:World} {base:Nat} {e:TypeId} {size:Nat} {v:Value} {n:Nat} {xs:List Value} (h:w.ownsRow base e size v n xs):∃ A c,v=.slice A n c:=by
 rcases h.2 with ⟨rfl,rfl⟩ | ⟨g,cap,_,rfl,_⟩
 ·exact ⟨none,0,rfl⟩
 ·exact ⟨_,cap,rfl⟩
section
variable {ops:Array Oper} {rest:List Oper} {o:Oper} {a:Act} {w:World} {Q:Exit→Act→World→Prop}
theorem Zfr (hgd:o.guard=none) (s x:Operand) (ho:o.op=.call { callee:=.builtin .append,args:=#[s,x],argTypes:=#[36,36] })
 {base:Nat} {LA:Option Addr} {n lc:Nat} {ts:List Lc} (hs:a.eval s=.slice LA n lc) (hown:w.ownsRow base 140 3 (.slice LA n lc) n (lcCells ts))
 {g ty:Nat} (t:Lc) (hx:a.eval x=.slice (some ⟨g,0,none⟩) 1 1) (hw:Whole w g ty #[.int .i64 t.1,.int .i64 t.2.1,.int .i64 t.2.2]) (hn:n≤1000000) (hbase:base≤w.heap.size)
 (hk:∀ A' c' w',w'.ownsRow base 140 3 (.slice A' (n+1) c') (n+1) (lcCells (ts++[t]))→Below base w w'→wpList Tryz.prog ops Q rest (a.put o.dst (.slice A' (n+1) c')) w'):wpList Tryz.prog ops Q (o :: rest) a w:=by
 obtain ⟨i0,hi,hz0,hz1,hz2⟩:=info_parts infoLoc
 refine wpList_append_own w hgd s x 36 ho base 140 i0 _ 3 24 Tryz.underlying36 hi hz0 hz1 hz2 rfl (by decide) (.slice LA n lc) n (lcCells ts) hs hown ⟨g,0,none⟩ 1 1 (lcV t) hx rfl (Zv5 hw) (Zvg t) (by unfold maxLen;omega) (by omega) hbase fun v' w' h1 h2 _=>?_
 obtain ⟨A',c',rfl⟩:=Zk4 h1
 rw [show lcCells ts++lcV t=lcCells (ts++[t]) by rw [lcCells_append];simp [lcCells]] at h1
 exact hk A' c' w' h1 ((Below.refl _ w).grown h2 hbase fun k hk=>(hown.lt k hk).1)
end

theorem Zs5 (s:Src):(numS s 2).1 < 65536:=by
 have h:=J0 (takeS s 2).1
 have hl:(takeS s 2).1.length≤2:=by
  unfold takeS
  split
  ·simp
  ·simp;omega
 unfold numS
 dsimp only
 obtain e | e | e:(takeS s 2).1.length=0∨(takeS s 2).1.length=1∨(takeS s 2).1.length=2:=by omega
 all_goals
  rw [e] at h
  simp at h
  omega
theorem Znu {k:Nat} {s:Src} {acc:List Lc} (h:(locS s).2.2=true):locsL (k+1) s acc=([],(locS s).2):=by
 rw [locsL,if_pos h]
theorem Zs6 {k:Nat} {s:Src} {acc:List Lc} (h:(locS s).2.2=false):locsL (k+1) s acc=locsL k (locS s).2 (acc++[(locS s).1]):=by
 rw [locsL,if_neg (by rw [h];simp)]
theorem Zs7 (s:Src):(locS s).2.1.length≤s.1.length:=Nat.le_trans (Yr _ _) (Nat.le_trans (Yr _ _) (Yr _ _))

theorem Zqe (g:Nat) (s:Src) (w:World) (h:At w g s) (hs:s.1.length≤140737488351232) :
 Calls Tryz.prog 280 #[.pointer (some ⟨g,0,none⟩)] w fun e w'=>∃ A n c,e=.returned (.slice A n c)∧w'.ownsRow w.heap.size 140 3 (.slice A n c) n (lcCells (locsS s).1)∧(locsS s).1.length=n∧At w' g (locsS s).2∧Turns g w w':=by
 have hg:=h.lt
 have h1:=Za2 g s 2 w h (by omega) hs
 have hlt:=Zs5 s
 have hsl:=Yr s 2
 obtain ⟨N,hN⟩:=Zmj s 2
 unfold locsS
 rw [show ((2:Nat):Int)=2 from rfl] at h1
 rw [hN] at h1 hlt
 rw [hN,Int.toNat_natCast]
 generalize (numS s 2).2=s1 at *
 have H1:=hid h1
 have hN2:N≤65536:=by omega
 clear h1 h hN hlt
 obtain ⟨R,hR⟩:∃ R,locsL N s1 []=R:=⟨_,rfl⟩
 rw [hR]
 have HR:=hid hR
 clear hR
 go_enter Tryz.func280,Tryz.ntmps280
 go_wp2_with (fail)
 refine H1.out.mono ?_
 rintro e w1 ⟨rfl,ha,ht⟩
 have HA:=hid (And.intro ha ht)
 clear ha ht
 go_wp2_with (fail)
 go_loopw [3,7] (fun a i wr=>∃ (A:Option Addr) (c k n:Nat) (s':Src) (acc:List Lc),k≤N∧n≤k∧i=.int .i64 (k:Nat)∧a=.slice A n c∧Hid (acc.length=n∧locsL (N - k) s' acc=R)∧Hid (At wr g s'∧s'.1.length≤s.1.length)∧Hid (wr.ownsRow w.heap.size 140 3 (.slice A n c) n (lcCells acc))∧Hid (Turns g w wr)) (fun _ i _=>N - (intOf i).toNat)
 case atStart=>exact ⟨none,0,0,0,s1,[],by omega,by omega,rfl,rfl,hid ⟨rfl,by simpa using HR.out⟩,hid ⟨HA.out.1,hsl⟩,hid (World.ownsRow_nil _ _ _ _),hid HA.out.2⟩
 case round =>
  obtain ⟨A,c,k,n,s',acc,hk,hnk,rfl,rfl,HE,HS,HO,HT⟩:=hrel
  by_cases hlt:k < N
  ·have hq:N - k=(N - (k+1))+1:=by omega
   have he0:=HE.out.2
   rw [hq] at he0
   have he:((locS s').2.2=true→([],(locS s').2)=R)∧((locS s').2.2=false→locsL (N - (k+1)) (locS s').2 (acc++[(locS s').1])=R):=⟨fun h=>(Znu h).symm.trans he0,fun h=>(Zs6 h).symm.trans he0⟩
   clear he0
   have hle:=Zs7 s'
   have hl0:=HS.out.2
   have l1:=Yr s' 4
   have l2:=Yr (numS s' 4).2 4
   have C1:=hid (Za2 g s' 4 wr HS.out.1 (by omega) (by omega))
   have C2:=hid (fun (w2:World) (h:At w2 g (numS s' 4).2)=>Za2 g (numS s' 4).2 4 w2 h (by omega) (by omega))
   have C3:=hid (fun (w2:World) (h:At w2 g (numS (numS s' 4).2 4).2)=>Za2 g (numS (numS s' 4).2 4).2 2 w2 h (by omega) (by omega))
   rw [show ((4:Nat):Int)=4 from rfl] at C1 C2
   rw [show ((2:Nat):Int)=2 from rfl] at C3
   unfold locS at he hle
   dsimp only at he hle
   generalize numS (numS (numS s' 4).2 4).2 2=z at *
   generalize numS (numS s' 4).2 4=y at *
   generalize numS s' 4=x at *
   obtain ⟨z0,zs,zb⟩:=z
   dsimp only at he hle C3
   have HE2:=hid he
   have k0:(k:Int) < (N:Int):=by omega
   have HLE:=hid hle
   clear he hle hq l1 l2 hl0
   go_wp2_with (fail)
   refine C1.out.mono ?_
   rintro e w2 ⟨rfl,ha2,ht2⟩
   have HA2:=hid (And.intro ha2 ht2)
   clear ha2 ht2
   go_wp2_with (fail)
   refine (C2.out w2 HA2.out.1).mono ?_
   rintro e w3 ⟨rfl,ha3,ht3⟩
   have HA3:=hid (And.intro ha3 (HA2.out.2.trans ht3))
   clear ha3 ht3
   go_wp2_with (fail)
   refine (C3.out w3 HA3.out.1).mono ?_
   rintro e w4 ⟨rfl,ha4,ht4⟩
   have HA4:=hid (And.intro ha4 (HA3.out.2.trans ht4))
   have hlt4:=ha4.lt
   obtain ⟨A4,n4,c4,hw4,hl4⟩:=ha4
   have d1:=hw4.cell 1
   simp only [Gt] at d1
   have hsz4:w.heap.size≤w4.heap.size:=Nat.le_trans HT.out.size HA4.out.2.size
   have HO4:=hid (Ju HO.out HA4.out.2 hg)
   clear hw4 hl4 ht4
   cases zb with
   | true =>
     go_wp2_with (fail)
     go_ret
     have he:=HE2.out.1 (by simp)
     subst he
     exact ⟨none,0,0,rfl,World.ownsRow_nil _ _ _ _,rfl,HA4.out.1.up (Za _ _),(HT.out.trans HA4.out.2).trans (Turns.grow (Za _ _))⟩
   | false =>
     have hx5:=Whole.made w4 140 #[.int .i64 x.1,.int .i64 y.1,.int .i64 z0]
     have hx6:=Whole.made (w4.alloc (.cells #[.int .i64 x.1,.int .i64 y.1,.int .i64 z0] 140)) 140 #[.int .i64 x.1,.int .i64 y.1,.int .i64 z0]
     rw [World.size_alloc] at hx6
     have HX:=hid hx6
     have HG6:=hid (Grows.trans (Za w4 (.cells #[.int .i64 x.1,.int .i64 y.1,.int .i64 z0] 140)) (Za _ (.cells #[.int .i64 x.1,.int .i64 y.1,.int .i64 z0] 140)))
     clear hx5 hx6
     go_wp2_with (at_builtin
                  refine Zfr rfl (.tmp 20) (.tmp 22) rfl (base:=w.heap.size) rfl (Zd HO4.out HG6.out) (x.1,y.1,z0) rfl HX.out (by omega) (Nat.le_trans hsz4 HG6.out.size) ?_
                  intro A7 c7 w7 ho7 hb7
                  have HO7:=hid ho7
                  have HB7:=hid hb7
                  clear ho7 hb7)
     go_roundw
     case rel =>
      have he:=HE2.out.2 (by simp)
      refine ⟨A7,c7,k+1,n+1,(zs,false),acc++[(x.1,y.1,z0)],by omega,by omega,by go_num,rfl,hid ⟨by rw [List.length_append,HE.out.1];rfl,he⟩,hid ⟨?_,Nat.le_trans HLE.out HS.out.2⟩,HO7,hid ?_⟩
      ·exact (HA4.out.1.up HG6.out).under HB7.out hg
      ·exact ((HT.out.trans HA4.out.2).trans (Turns.grow HG6.out)).then HB7.out
     case measure=>simp [intOf];omega
  ·obtain rfl:k=N:=by omega
   have he:=HE.out.2
   rw [Nat.sub_self,locsL] at he
   have hn:=HE.out.1
   subst he hn
   go_wp2_with (fail)
   go_ret
   exact ⟨A,acc.length,c,rfl,HO.out,rfl,HS.out.1,HT.out⟩
end Go.Proofs.YtkelafkbmnjpeaaGreat
