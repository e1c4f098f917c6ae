/-
  Texts that the statements lean on, one behind the other.
-/
import Derived.Test.YtkelafkbmnjpeaaGreatMG08
import Derived.Deep.Matrix
import Derived.Test.YtkelafkbmnjpeaaGreatRows
import Derived.Laws.AppendOwn
import Derived.KernelRfl
import Derived.Test.YtkelafkbmnjpeaaGreatMG00
import Derived.Test.YtkelafkbmnjpeaaGreatMG10
import Derived.WalkKit
import Derived.LoopTactic
import Derived.Outline
import Derived.Lib.Hide
import Derived.Below
import Derived.WalkLawsBesides
import Derived.WalkSpells
import Derived.Laws.BitsAllLaws
import Derived.Test.YtkelafkbmnjpeaaGreatMG01
import Derived.IntWalk
import Derived.OwnWalk
set_option linter.unusedSimpArgs false
set_option linter.unusedVariables false
namespace Go.Proofs.YtkelafkbmnjpeaaGreat
open Go.ChangeShapes Go.WideShapes Go.ChangeAt Go.RowKit
def slV (h:Option Addr×Nat×Nat):Value:=.slice h.1 h.2.1 h.2.2
structure Lists (w:World) (A:Option Addr) (n c:Nat) (ls:List (List UInt8)):Prop where
 len:ls.length=n
 cap:n≤c
 bare:A=none→c=0
 rows:∃ hs:List (Option Addr×Nat×Nat),Row w w.heap.size A n (hs.map slV)∧∀ (i:Nat) (h:Option Addr×Nat×Nat) (l:List UInt8),hs[i]?=some h→ls[i]?=some l→Sl w h.1 h.2.1 h.2.2 l
section
variable {H:Type} {enc:TypeId×Value→H} {P:Program} {W:World} {base:Nat} {r:Reach}
end
end Go.Proofs.YtkelafkbmnjpeaaGreat
namespace Go.Proofs.YtkelafkbmnjpeaaGreat
open Go.RowKit
abbrev It:=Nat×Nat×List UInt8
abbrev Hd:=Option Addr×Nat×Nat
def itV (t:It) (h:Hd):List Value:=[.int .i64 (t.1:Nat),.int .i64 (t.2.1:Nat),slV h]
def itCells:List It→List Hd→List Value
 | t :: ts,h :: hs=>itV t h++itCells ts hs
 | _,_=>[]
theorem itCells_length:∀ (ts:List It) (hs:List Hd),ts.length=hs.length→(itCells ts hs).length=3*ts.length
 | [],[],_=>rfl
 | t :: ts,h :: hs,e=>by
   have:=itCells_length ts hs (by simpa using e)
   simp only [itCells,List.length_append,itV,List.length_cons,List.length_nil,this]
   omega
 | [],_ :: _,e=>by cases e
 | _ :: _,[],e=>by cases e
theorem itCells_append:∀ (ts us:List It) (hs gs:List Hd),ts.length=hs.length→itCells (ts++us) (hs++gs)=itCells ts hs++itCells us gs
 | [],us,[],gs,_=>rfl
 | t :: ts,us,h :: hs,gs,e=>by
   simp only [List.cons_append,itCells]
   rw [itCells_append ts us hs gs (by simpa using e),List.append_assoc]
 | [],_,_ :: _,_,e=>by cases e
 | _ :: _,_,[],_,e=>by cases e
theorem itCells_get:∀ (ts:List It) (hs:List Hd) (i:Nat) (t:It) (h:Hd),ts[i]?=some t→hs[i]?=some h →
 (itCells ts hs)[3*i]?=some (.int .i64 (t.1:Nat))∧(itCells ts hs)[3*i+1]?=some (.int .i64 (t.2.1:Nat))∧(itCells ts hs)[3*i+2]?=some (slV h)
 | t :: ts,h :: hs,0,_,_,ht,hh=>by
   simp only [List.getElem?_cons_zero,Option.some.injEq] at ht hh
   subst ht hh
   exact ⟨rfl,rfl,rfl⟩
 | t :: ts,h :: hs,i+1,t',h',ht,hh=>by
   obtain ⟨h1,h2,h3⟩:=itCells_get ts hs i t' h' (by simpa using ht) (by simpa using hh)
   have e:∀ k,(itV t h++itCells ts hs)[3+k]?=(itCells ts hs)[k]?:=fun k=>by
    rw [List.getElem?_append_right (by simp [itV])]
    simp [itV]
   refine ⟨?_,?_,?_⟩
   ·rw [show 3*(i+1)=3+3*i by omega];exact (e _).trans h1
   ·rw [show 3*(i+1)+1=3+(3*i+1) by omega];exact (e _).trans h2
   ·rw [show 3*(i+1)+2=3+(3*i+2) by omega];exact (e _).trans h3
 | [],_,i,_,_,ht,_=>by simp at ht
 | _ :: _,[],i,_,_,_,hh=>by simp at hh
structure Items (w:World) (A:Option Addr) (n c:Nat) (ts:List It):Prop where
 len:ts.length=n
 cap:n≤c
 bare:A=none→c=0
 rows:∃ hs:List Hd,hs.length=n∧Row w w.heap.size A (3*n) (itCells ts hs)∧∀ (i:Nat) (h:Hd) (t:It),hs[i]?=some h→ts[i]?=some t→Sl w h.1 h.2.1 h.2.2 t.2.2
theorem Items.grow {w w':World} {A:Option Addr} {n c:Nat} {ts:List It} (hg:Grows w w') (h:Items w A n c ts):Items w' A n c ts:=by
 obtain ⟨h1,h2,h3,hs,hl,hr,hq⟩:=h
 exact ⟨h1,h2,h3,hs,hl,hg.row hr,fun i x l hx hl=>(hq i x l hx hl).grow hg⟩
theorem Items.get {w:World} {A:Option Addr} {n c:Nat} {ts:List It} (h:Items w A n c ts) {i:Nat} (hi:i < n) :
 ∃ ad B m d,A=some ad∧w.cell? (ad.add (3*i))=some (.int .i64 ((ts.getD i (0,0,[])).1:Nat))∧w.cell? (ad.add (3*i+1))=some (.int .i64 ((ts.getD i (0,0,[])).2.1:Nat)) ∧
  w.cell? (ad.add (3*i+2))=some (.slice B m d)∧Sl w B m d (ts.getD i (0,0,[])).2.2:=by
 obtain ⟨h1,_,_,hs,hl,hr,hq⟩:=h
 have hx:hs[i]?=some hs[i]:=List.getElem?_eq_getElem (by omega)
 have ht:ts[i]?=some (ts.getD i (0,0,[])):=by
  rw [List.getElem?_eq_getElem (by omega)]
  simp [show i < ts.length by omega]
 obtain ⟨g1,g2,g3⟩:=itCells_get ts hs i _ _ ht hx
 obtain ⟨ad,hA,_,c1⟩:=hr.spot _ _ g1
 obtain ⟨ad2,hA2,_,c2⟩:=hr.spot _ _ g2
 obtain ⟨ad3,hA3,_,c3⟩:=hr.spot _ _ g3
 rw [hA] at hA2 hA3
 injection hA2 with hA2
 injection hA3 with hA3
 subst hA2 hA3
 exact ⟨ad,hs[i].1,hs[i].2.1,hs[i].2.2,hA,c1,c2,c3,hq i _ _ hx ht⟩
theorem Items.spot {w:World} {A:Option Addr} {n c:Nat} {ts:List It} (h:Items w A n c ts) {i:Nat} (hi:i < n) :
 ∃ ad B m d,A=some ad∧(∀ w',Grows w w'→w'.cell? (ad.add (i*3))=some (.int .i64 ((ts.getD i (0,0,[])).1:Nat))) ∧
  (∀ w',Grows w w'→w'.cell? { block:=(ad.add (i*3)).block,off:=(ad.add (i*3)).off+1 }=some (.int .i64 ((ts.getD i (0,0,[])).2.1:Nat))) ∧
  (∀ w',Grows w w'→w'.cell? { block:=(ad.add (i*3)).block,off:=(ad.add (i*3)).off+2 }=some (.slice B m d))∧Sl w B m d (ts.getD i (0,0,[])).2.2:=by
 obtain ⟨ad,B,m,d,hA,c1,c2,c3,hs⟩:=h.get hi
 have e1:ad.add (3*i)=ad.add (i*3):=by rw [Nat.mul_comm]
 have e2:ad.add (3*i+1)={ block:=(ad.add (i*3)).block,off:=(ad.add (i*3)).off+1 }:=by rw [Nat.mul_comm,←Jg,Addr.add_succ' (ad.add (i*3)) 0]
 have e3:ad.add (3*i+2)={ block:=(ad.add (i*3)).block,off:=(ad.add (i*3)).off+2 }:=by rw [Nat.mul_comm,←Jg,Addr.add_succ' (ad.add (i*3)) 1]
 have up:∀ (p:Addr) (v:Value),w.cell? p=some v→∀ w',Grows w w'→w'.cell? p=some v:=fun p v hp w' hg=>(hg.cell (World.block_lt_of_cell? w _ hp)).trans hp
 rw [e1] at c1
 rw [e2] at c2
 rw [e3] at c3
 exact ⟨ad,B,m,d,hA,up _ _ c1,up _ _ c2,up _ _ c3,hs⟩
theorem Items.owned {w:World} {base:Nat} {e:TypeId} {A:Option Addr} {n c:Nat} {ts:List It} {hs:List Hd} (hl:ts.length=hs.length) (hn:ts.length=n) (h:w.ownsRow base e 3 (.slice A n c) n (itCells ts hs))
 (hq:∀ (i:Nat) (h:Hd) (t:It),hs[i]?=some h→ts[i]?=some t→Sl w h.1 h.2.1 h.2.2 t.2.2):Items w A n c ts:=by
 refine ⟨hn,?_,?_,hs,by omega,?_,hq⟩
 ·rcases h.2 with ⟨h1,h2⟩ | ⟨g,cap,_,h1,_,_,h2,_⟩
  ·omega
  ·injection h1 with _ _ h1;omega
 ·intro hA
  rcases h.2 with ⟨h1,h2⟩ | ⟨g,cap,_,h1,_⟩
  ·injection h1
  ·injection h1 with h1 _ _;rw [hA] at h1;cases h1
 ·refine ⟨by rw [itCells_length ts hs hl,hn],fun k v hv=>?_⟩
  have hpos:0 < n:=by
   rcases Nat.eq_zero_or_pos n with h0 | h0
   ·subst h0
    have:itCells ts hs=[]:=List.eq_nil_of_length_eq_zero (by rw [itCells_length ts hs hl,hn])
    rw [this] at hv
    simp at hv
   ·exact h0
  obtain ⟨g,cap,hval,_,hlt⟩:=h.form hpos
  injection hval with hA _ _
  subst hA
  exact ⟨_,rfl,hlt,h.cells (g:=g) rfl k v hv⟩
end Go.Proofs.YtkelafkbmnjpeaaGreat
namespace Go.Proofs.YtkelafkbmnjpeaaGreat
open Go.RowKit
theorem infoItem:(Tryz.prog.info? 212).map (fun i=>(i.zero,i.size,i.bytes))=some (some (.agg #[.int .i64 0,.int .i64 0,.slice none 0 0]),3,40):=by kernel_rfl
def Jj (w:World) (base:Nat) (hs:List Hd) (ts:List It):Prop :=
 hs.length=ts.length∧∀ (i:Nat) (h:Hd) (t:It),hs[i]?=some h→ts[i]?=some t→w.ownsRow base 5 1 (slV h) h.2.1 (t.2.2.map byteV)
theorem Jj.nil (w:World) (base:Nat):Jj w base [] []:=⟨rfl,fun i h t hh=>by simp at hh⟩
theorem Jj.step {w w':World} {base:Nat} {hs:List Hd} {ts:List It} (hb:Jj w base hs ts)
 (hk:∀ (v:Value) (n:Nat) (xs:List Value),w.ownsRow base 5 1 v n xs→w'.ownsRow base 5 1 v n xs):Jj w' base hs ts :=
 ⟨hb.1,fun i h t hh ht=>hk _ _ _ (hb.2 i h t hh ht)⟩
theorem Jj.snoc {w:World} {base:Nat} {hs:List Hd} {ts:List It} (hb:Jj w base hs ts) {h:Hd} {t:It} (ho:w.ownsRow base 5 1 (slV h) h.2.1 (t.2.2.map byteV)):Jj w base (hs++[h]) (ts++[t]):=by
 refine ⟨by rw [List.length_append,List.length_append,hb.1];rfl,fun i x y hx hy=>?_⟩
 by_cases hi:i < hs.length
 ·rw [List.getElem?_append_left hi] at hx
  rw [List.getElem?_append_left (by rw [←hb.1];exact hi)] at hy
  exact hb.2 i x y hx hy
 ·rw [List.getElem?_append_right (by omega)] at hx
  rw [List.getElem?_append_right (by rw [←hb.1];omega)] at hy
  have hi0:i - hs.length=0:=by
   rcases Nat.eq_zero_or_pos (i - hs.length) with h0 | h0
   ·exact h0
   ·rw [List.getElem?_eq_none (by simp;omega)] at hx;cases hx
  rw [←hb.1] at hy
  rw [hi0] at hx hy
  simp only [List.getElem?_cons_zero,Option.some.injEq] at hx hy
  subst hx hy
  exact ho
theorem Sl.owned' {w:World} {base:Nat} {h:Hd} {bs:List UInt8} (ho:w.ownsRow base 5 1 (slV h) h.2.1 (bs.map byteV)):Sl w h.1 h.2.1 h.2.2 bs:=Sl.owned ho
theorem Zjq {w:World} {base base':Nat} {A:Option Addr} {n c:Nat} {ts:List It} {hs:List Hd} (hn:ts.length=n) (h:w.ownsRow base 212 3 (.slice A n c) n (itCells ts hs)) (hb:Jj w base' hs ts):Items w A n c ts :=
 Items.owned hb.1.symm hn h fun i x t hx ht=>Sl.owned' (hb.2 i x t hx ht)
theorem Zpw {w:World} {base:Nat} {e:TypeId} {size:Nat} {v:Value} {n:Nat} {xs:List Value} (h:w.ownsRow base e size v n xs):∃ A c,v=.slice A n c:=by
 rcases h.2 with ⟨rfl,rfl⟩ | ⟨g,cap,_,rfl,_⟩
 ·exact ⟨none,0,rfl⟩
 ·exact ⟨_,cap,rfl⟩
theorem Zjr {w:World} {b1 b2:Nat} {e1 e2:TypeId} {s1 s2:Nat} {v1 v2:Value} {n1 n2:Nat} {xs1 xs2:List Value} (h1:w.ownsRow b1 e1 s1 v1 n1 xs1) (h2:w.ownsRow b2 e2 s2 v2 n2 xs2) (hne:e1≠e2):v1.ownBlock=none∨v1.ownBlock≠v2.ownBlock:=by
 rcases h1.2 with ⟨rfl,_⟩ | ⟨g,cap,cur,rfl,_,hg,_⟩
 ·exact .inl rfl
 refine .inr fun e=>?_
 rcases h2.2 with ⟨rfl,_⟩ | ⟨g',cap',cur',rfl,_,hg',_⟩
 ·simp [Value.ownBlock] at e
 ·obtain rfl:g=g':=by simpa [Value.ownBlock] using e
  rw [hg] at hg'
  injection hg' with hg'
  injection hg' with _ ht _
  exact hne ht
theorem Zjs (ts:List It) (hs:List Hd) (t:It) (h:Hd) (hl:ts.length=hs.length):itCells (ts++[t]) (hs++[h])=itCells ts hs++itV t h:=by
 rw [itCells_append _ _ _ _ hl]
 simp [itCells]
theorem Zuu (t:It) (h:Hd):∀ u∈itV t h,u.oneCell'=true:=by
 intro u hu
 simp only [itV,List.mem_cons,List.not_mem_nil,or_false] at hu
 rcases hu with rfl | rfl | rfl <;> rfl
theorem Zvg {w:World} {g ty:Nat} {t:It} {h:Hd} (hw:Whole w g ty #[.int .i64 (t.1:Nat),.int .i64 (t.2.1:Nat),slV h]):∀ j u,(itV t h)[j]?=some u→w.cell? ((⟨g,0,none⟩:Addr).add j)=some u:=by
 intro j u hj
 rw [show (⟨g,0,none⟩:Addr).add j=⟨g,j,none⟩ by unfold Addr.add;split <;> simp_all,hw.cell j]
 simpa [itV] using hj
section
variable {ops:Array Oper} {rest:List Oper} {o:Oper} {a:Act} {w:World} {Q:Exit→Act→World→Prop}
end
end Go.Proofs.YtkelafkbmnjpeaaGreat
set_option maxHeartbeats 400000
set_option maxRecDepth 100000
namespace Go.Proofs.YtkelafkbmnjpeaaGreat
open Go.Lib (hid)
open Go.RowKit
theorem Zsr (m:Nat) (hm:m < 4294967296) (h:m % 2=1):(bits BinOp.and IntKind.u32 (↑m) 1==1)=true:=by
 have:=u32_and_nat m 1 hm (by omega)
 simp only [Int.natCast_one] at this
 rw [this,Nat.and_one_is_mod,h];rfl
theorem Zp0 (m:Nat) (hm:m < 4294967296) (h:¬ m % 2=1):(bits BinOp.and IntKind.u32 (↑m) 1==1)=false:=by
 have:=u32_and_nat m 1 hm (by omega)
 simp only [Int.natCast_one] at this
 rw [this,Nat.and_one_is_mod,show m % 2=0 from by omega];rfl
theorem Zss (m:Nat) (hm:m < 4294967296):bits BinOp.xor IntKind.u32 ((m:Int) / 2) 2197175160=((m / 2 ^^^ 2197175160:Nat):Int):=by
 have:=u32_xor_nat (m / 2) 2197175160 (by omega) (by omega)
 rw [←this];rfl
/-! sum.entry -/
theorem Zp1 (n:Nat) (w:World) (hn:n < 4294967296) :
 Calls Tryz.prog 285 #[.int .u32 n] w fun e w'=>e=.returned (.int .u32 (iterN 8 n:Nat))∧w=w':=by
 go_enter Tryz.func285,Tryz.ntmps285
 go_wp2
 go_loop [0,4] (fun s i=>∃ k:Nat,k≤8∧i=.int .i64 k∧s=.int .u32 (iterN k n:Nat)) (fun _ i=>8 - (intOf i).toNat)
 case atStart=>exact ⟨0,by omega,rfl,rfl⟩
 case round =>
  obtain ⟨k,hk,rfl,rfl⟩:=hrel
  have hb:=Zl7 k n hn
  generalize hm:iterN k n=m at *
  have Hm:=hid hm
  clear hm
  by_cases hlt:k < 8
  ·by_cases ho:m % 2=1
   ·have h1:=Zsr m hb ho
    have Ho:=hid ho
    clear ho
    go_wp2
    go_round
    case rel=>exact ⟨k+1,by omega,by go_num,by rw [Zss m hb,iterN,Hm.out,stepN,if_pos Ho.out]⟩
    case measure=>simp [intOf];omega
   ·have h1:=Zp0 m hb ho
    have Ho:=hid ho
    clear ho
    go_wp2
    go_round
    case rel=>exact ⟨k+1,by omega,by go_num,by rw [iterN,Hm.out,stepN,if_neg Ho.out];rfl⟩
    case measure=>simp [intOf];omega
  ·go_wp2
   go_ret
   exact ⟨Zeu (by rw [show 8=k by omega,Hm.out]),rfl⟩
/-! sum.Table -/
theorem zeroT (w:World):(zeroValue 262).run Tryz.prog w=.ok (.agg (arrV fun _=>0)) w:=by kernel_rfl
theorem sizeT:(Tryz.prog.info? 262).map (·.size)=some 256:=by kernel_rfl
def upto (f:Nat→Nat) (k i:Nat):Nat:=if i < k then f i else 0
theorem Zp2 (f:Nat→Nat) (k i:Nat):upto f (k+1) i=if i=k then f k else upto f k i:=by
 unfold upto
 by_cases h:i=k
 ·subst h;simp
 ·rw [if_neg h]
  by_cases h':i < k
  ·rw [if_pos h',if_pos (by omega)]
  ·rw [if_neg h',if_neg (by omega)]
theorem Zst (f:Nat→Nat) (i:Nat) (h:i < 256):upto f 256 i=f i:=if_pos h
theorem Zjw (w:World) :
 Calls Tryz.prog 235 #[] w fun e w'=>e=.returned (.agg (arrV tabN))∧Below w.heap.size w w':=by
 have hz:=zeroT
 go_enter Tryz.func235,Tryz.ntmps235
 go_wp2
 go_loopw [3] (fun i wr=>∃ k:Nat,k≤256∧i=.int .i64 k∧Whole wr w.heap.size 262 (arrV fun _=>0)∧Whole wr (w.heap.size+1) 262 (arrV (upto tabN k))∧Below w.heap.size w wr) (fun i _=>256 - (intOf i).toNat)
 case atStart =>
  refine ⟨0,by omega,rfl,?_,?_,?_⟩
  ·exact (Whole.made w _ _).alloc _
  ·have h:=Whole.made (w.alloc (.cells (arrV fun _=>0) 262)) 262 (arrV fun _=>0)
   simp only [World.size_alloc] at h
   exact h
  ·exact ((Below.refl _ _).alloc (Nat.le_refl _) _).alloc (by simp) _
 case round =>
  obtain ⟨k,hk,rfl,h0,h1,hb⟩:=hrel
  by_cases hlt:k < 256
  ·have hc:=h1.cell k
   rw [Zea _ k hlt] at hc
   have hf:=h1.free k
   have H1:=hid h1
   have H0:=hid h0
   clear h1 h0
   go_wp2_with (fail)
   refine (Zp1 k _ (by omega)).mono ?_
   rintro e w' ⟨rfl,rfl⟩
   go_wp2_with (fail)
   go_roundw
   case rel =>
    refine ⟨k+1,by omega,by go_num,H0.out.elsewhere (by simp) _,?_,hb.setCell (by simp) _⟩
    have h:=H1.out.put k (.int .u32 (tabN k:Nat))
    rw [Zr7 _ (upto tabN (k+1)) k (tabN k) hlt (fun i _=>Zp2 tabN k i)] at h
    exact h
   case measure=>simp [intOf];omega
  ·obtain rfl:k=256:=by omega
   rw [Zr6 (Zst tabN)] at h1
   have H1:=hid h1
   have H0:=hid h0
   clear h1 h0
   go_wp2_with (first
    | (refine wpList_load_row rfl 262 _ rfl (w.heap.size+1) rfl 262 _ (0,0) _ H1.out Tryz.underlying262 rfl (by rw [Y1];exact sizeT) ?_)
    | (refine wpList_store_row rfl 262 _ _ rfl w.heap.size (arrV tabN) rfl rfl 262 _ H0.out (by rw [Y1];exact sizeT) (by rw [Y1,Y1]) (Zr5 _) ?_))
   refine bodyPost_ret (results_cell_row rfl _ _ w.heap.size 262 (arrV tabN) (0,0) _ rfl (setRow_heap wr w.heap.size _ _ 262 _ H0.out) Tryz.underlying262 rfl (by rw [Y1];exact sizeT)) rfl ?_
   exact ⟨rfl,Zd1 hb (Nat.le_refl _) _⟩
end Go.Proofs.YtkelafkbmnjpeaaGreat
set_option maxHeartbeats 400000
set_option maxRecDepth 100000
namespace Go.Proofs.YtkelafkbmnjpeaaGreat
open Go.RowKit
theorem Zmg (s:Nat) (h:s < 4294967296):bits BinOp.xor IntKind.u32 IntKind.u32.max ↑s=((4294967295 - s:Nat):Int):=by
 rw [←Zsb s h]
 exact u32_xor_nat 4294967295 s (by omega) h
theorem Zvh (m:Nat) (b:UInt8):bits BinOp.xor IntKind.u8 ((m:Int) % 256) (b.toNat:Int)=(((m ^^^ b.toNat) % 256:Nat):Int):=by
 have hx:(m % 256) ^^^ b.toNat < 2 ^ 8:=Nat.xor_lt_two_pow (by omega) b.toNat_lt
 have h1:(BitVec.ofInt 8 ((m:Int) % 256)).toNat=m % 256:=by
  rw [show ((m:Int) % 256)=((m % 256:Nat):Int) by omega,BitVec.ofInt_natCast,BitVec.toNat_ofNat];exact Nat.mod_eq_of_lt (by omega)
 have h2:(BitVec.ofInt 8 (b.toNat:Int)).toNat=b.toNat:=by
  rw [BitVec.ofInt_natCast,BitVec.toNat_ofNat];exact Nat.mod_eq_of_lt b.toNat_lt
 show IntKind.u8.wrap ((BitVec.ofInt 8 ((m:Int) % 256) ^^^ BitVec.ofInt 8 (b.toNat:Int)).toNat:Int)=_
 rw [BitVec.toNat_xor,h1,h2,IntKind.wrap_u8']
 have h3:(m ^^^ b.toNat) % 256=(m % 256) ^^^ b.toNat:=by
  rw [show 256=2 ^ 8 by rfl,Nat.xor_mod_two_pow,Nat.mod_eq_of_lt b.toNat_lt]
 rw [h3]
 omega
theorem Zsq (f:Nat→Nat) (hf:∀ i,i < 256→f i < 4294967296) (m:Nat) (hm:m < 4294967296) (b:UInt8) (q:Nat) (hq:(m ^^^ b.toNat) % 256=q) :
 bits BinOp.xor IntKind.u32 ((m:Int) / 256) (f q:Nat)=((nextN f m b:Nat):Int):=by
 subst hq
 have:=u32_xor_nat (m / 256) (f ((m ^^^ b.toNat) % 256)) (by omega) (hf _ (by omega))
 unfold nextN
 rw [←this]
 rfl
theorem Zvi (f:Nat→Nat) (hf:∀ i,i < 256→f i < 4294967296) (s:Nat) (hs:s < 4294967296) (A:Option Addr) (n c:Nat) (bs:List UInt8) (w:World) (hr:Bytes w w.heap.size A n bs) (hn:n≤maxLen) :
 Calls Tryz.prog 284 #[.agg (arrV f),.int .u32 s,.slice A n c] w fun e w'=>e=.returned (.int .u32 (onN f s bs:Nat))∧Below w.heap.size w w':=by
 unfold maxLen at hn
 have HL:=Lib.hid hr.len
 go_enter Tryz.func284,Tryz.ntmps284
 go_wp2_with (fail)
 go_loop [1,13] (fun s' i=>∃ k:Nat,k≤n∧i=.int .i64 k∧s'=.int .u32 (runN f (4294967295 - s) (bs.take k):Nat)) (fun _ i=>n - (intOf i).toNat)
 case atStart=>exact ⟨0,by omega,rfl,by rw [Zmg s hs];rfl⟩
 case round =>
  obtain ⟨k,hk,rfl,rfl⟩:=hrel
  have hb:=Zuo f hf (bs.take k) (4294967295 - s) (by omega)
  have hst:=fun h=>Zpg f (4294967295 - s) bs k h
  generalize hm:runN f (4294967295 - s) (bs.take k)=m at *
  have Hm:=Lib.hid hm
  have Hst:=Lib.hid hst
  clear hm hst
  by_cases hlt:k < n
  ·obtain ⟨ad,rfl,hab,hc⟩:=hr.spot hlt
   have hc':(w.alloc (.cells (arrV f) 262)).cell? (ad.add k)=some (.int .u8 ((bs.getD k 0).toNat:Nat)):=by
    rw [World.cell?_alloc_lt w _ _ (by rw [Zk];exact hab)]
    exact hc
   clear hc
   generalize bs.getD k 0=b at *
   have hx:=Zvh m b
   generalize hq:(m ^^^ b.toNat) % 256=q at *
   have hq':q < 256:=by omega
   have hcell:=Zea f q hq'
   have Hq:=Lib.hid hq
   clear hq
   go_wp2_with (fail)
   go_round
   case rel=>exact ⟨k+1,by omega,by go_num,by rw [Hst.out (by have:=HL.out;omega),Zsq f hf m hb b q Hq.out]⟩
   case measure=>simp [intOf];omega
  ·obtain rfl:k=n:=by omega
   go_wp2_with (fail)
   go_ret
   exact ⟨Zeu (by rw [Zmg m hb];unfold onN;rw [←Hm.out,List.take_of_length_le (by have:=HL.out;omega)]),(Below.refl _ _).alloc (Nat.le_refl _) _⟩
theorem Zt3 (f:Nat→Nat) (hf:∀ i,i < 256→f i < 4294967296) (A:Option Addr) (n c:Nat) (bs:List UInt8) (w:World) (hr:Bytes w w.heap.size A n bs) (hn:n≤maxLen) :
 Calls Tryz.prog 234 #[.agg (arrV f),.slice A n c] w fun e w'=>e=.returned (.int .u32 (onN f 0 bs:Nat))∧Below w.heap.size w w':=by
 have hw:=Whole.made w 262 (arrV f)
 have hr1:=hr.alloc (Nat.le_refl _) (.cells (arrV f) 262)
 have Hw:=Lib.hid hw
 clear hw
 go_enter Tryz.func234,Tryz.ntmps234
 go_wp2_with (refine wpList_load_row rfl 262 _ rfl w.heap.size rfl 262 _ (0,0) _ Hw.out Tryz.underlying262 rfl (by rw [Y1];exact sizeT) ?_)
 refine (Zvi f hf 0 (by omega) A n c bs _ (hr1.wider (by simp)) hn).mono ?_
 rintro e w' ⟨rfl,hb⟩
 go_wp2_with (fail)
 go_ret
 exact ⟨rfl,((Below.refl _ _).alloc (Nat.le_refl _) _).trans (hb.mono (by simp))⟩
theorem tabN_all:∀ i,i < 256→tabN i < 4294967296:=Zun
end Go.Proofs.YtkelafkbmnjpeaaGreat
set_option maxHeartbeats 400000
set_option maxRecDepth 100000
namespace Go.Proofs.YtkelafkbmnjpeaaGreat
open Go.RowKit
theorem Yo (n:Int) (w:World) (h1:-9223372036854775808≤n) (h2:n≤9223372036854775807) :
 Calls Tryz.prog 86 #[.int .i64 n] w fun e w'=>e=.returned (.int .i64 (sizeN n))∧w=w':=by
 by_cases ha:n < 1
 ·have hd:decide (n < 1)=true:=by simp;omega
  go_enter Tryz.func86,Tryz.ntmps86
  go_wp2
  go_ret
  exact ⟨Zeu (by unfold sizeN;rw [if_neg (by omega)]),rfl⟩
 ·have hd:decide (n < 1)=false:=by simp;omega
  by_cases hb:8192 < n
  ·have hd2:decide (8192 < n)=true:=by simp;omega
   go_enter Tryz.func86,Tryz.ntmps86
   go_wp2
   go_ret
   exact ⟨Zeu (by unfold sizeN;rw [if_neg (by omega)]),rfl⟩
  ·have hd2:decide (8192 < n)=false:=by simp;omega
   go_enter Tryz.func86,Tryz.ntmps86
   go_wp2
   go_ret
   exact ⟨Zeu (by unfold sizeN;rw [if_pos (by omega)];omega),rfl⟩
def arr4 (l:List UInt8):Value:=.agg (l.map byteV).toArray
theorem Zt2 (x:Nat) (h:x < 256):bits BinOp.xor IntKind.u8 IntKind.u8.max (x:Int)=((255 - x:Nat):Int):=by
 have h1:(BitVec.allOnes 8 ^^^ BitVec.ofNat 8 x).toNat=255 - x:=by
  rw [BitVec.allOnes_xor,BitVec.toNat_not,BitVec.toNat_ofNat,Nat.mod_eq_of_lt h]
 rw [BitVec.toNat_xor,BitVec.toNat_ofNat,Nat.mod_eq_of_lt h] at h1
 rw [←h1]
 exact Zvd 255 x (by omega) h
theorem Zag {x:Int} {n:Nat} (h:x=((n % 256:Nat):Int)):Value.int .u8 x=byteV (UInt8.ofNat n):=by
 rw [h,byteV,UInt8.toNat_ofNat']
theorem Zbv (n:Nat) (w:World) (hn:n < 65536) :
 Calls Tryz.prog 191 #[.int .i64 (n:Int)] w fun e w'=>e=.returned (arr4 (headB n))∧Below w.heap.size w w':=by
 go_enter Tryz.func191,Tryz.ntmps191
 go_wp2_with (fail)
 refine bodyPost_ret (results_cell_row rfl _ _ w.heap.size _ _ (0,0) _ rfl (heap_alloc_new w _) Tryz.underlying229 rfl (by kernel_rfl)) rfl ?_
 refine ⟨?_,(Below.refl _ _).alloc (Nat.le_refl _) _⟩
 have e1:((n:Int) / 256)=((n / 256:Nat):Int):=by omega
 have e2:((n:Int) % 256)=((n % 256:Nat):Int):=by omega
 rw [e1,e2,Zt2 _ (by omega),Zt2 _ (by omega),Zag (n:=n / 256) (by omega),Zag (n:=n) (by omega),Zag (n:=255 - n / 256) (by omega),Zag (n:=255 - n % 256) (by omega)]
 unfold arr4 headB
 rw [Nat.mod_eq_of_lt (show n / 256 < 256 by omega)]
 rfl
theorem Zff (A:Option Addr) (n c:Nat) (bs:List UInt8) (w:World) (hs:Sl w A n c bs) (hn:n≤maxLen) :
 Calls Tryz.prog 192 #[.slice A n c] w fun e w'=>e=.returned (arr4 (tailB bs))∧Below w.heap.size w w':=by
 have HS:=Lib.hid hs
 clear hs
 go_enter Tryz.func192,Tryz.ntmps192
 go_wp2_with (fail)
 refine (Zjw _).mono ?_
 rintro e w1 ⟨rfl,hb1⟩
 have hG:=((Below.refl _ w).alloc (Nat.le_refl _) _).trans (hb1.mono (by simp))
 have hcell:Whole w1 w.heap.size 229 #[.int .u8 0,.int .u8 0,.int .u8 0,.int .u8 0]:=Whole.below (Whole.made w _ _) hb1 (by simp)
 have HG:=Lib.hid hG
 have HC:=Lib.hid hcell
 clear hb1 hG hcell
 go_wp2_with (fail)
 refine (Zt3 tabN tabN_all A n c bs w1 (Grows.bytes HG.out HS.out.bytes) hn).mono ?_
 rintro e w2 ⟨rfl,hb2⟩
 have hcell:Whole w2 w.heap.size 229 #[.int .u8 0,.int .u8 0,.int .u8 0,.int .u8 0]:=Whole.below HC.out hb2 HC.out.lt
 have hlt:=Zty tabN 0 bs
 have hG2:=Grows.trans HG.out hb2
 have HG2:=Lib.hid hG2
 have HC2:=Lib.hid hcell
 clear hcell hb2 hG2 HC HG
 generalize hs:onN tabN 0 bs=s at *
 have HO:=Lib.hid hs
 clear hs
 have c0:=HC2.out.cell 0
 have c1:=HC2.out.cell 1
 have c2:=HC2.out.cell 2
 have c3:=HC2.out.cell 3
 have f0:=HC2.out.free 0
 have f1:=HC2.out.free 1
 have f2:=HC2.out.free 2
 have f3:=HC2.out.free 3
 simp only [Gt] at c0 c1 c2 c3
 go_wp2_with (fail)
 have hw:=(((HC2.out.put 0 (.int .u8 ((s:Int) % 256))).put 1 (.int .u8 ((s:Int) / 256 % 256))).put 2 (.int .u8 ((s:Int) / 65536 % 256))).put 3 (.int .u8 ((s:Int) / 16777216))
 refine bodyPost_ret (results_cell_row rfl _ _ w.heap.size _ _ (0,0) _ rfl hw Tryz.underlying229 rfl (by kernel_rfl)) rfl ?_
 refine ⟨?_,(((HG2.out.setCell (Nat.le_refl _) _).setCell (Nat.le_refl _) _).setCell (Nat.le_refl _) _).setCell (Nat.le_refl _) _⟩
 unfold tailB lowB arr4
 show Ending.returned (.agg #[.int .u8 ((s:Int) % 256),.int .u8 ((s:Int) / 256 % 256),.int .u8 ((s:Int) / 65536 % 256),.int .u8 ((s:Int) / 16777216)])=_
 rw [HO.out,Zag (n:=s) (by omega),Zag (n:=s / 256) (by omega),Zag (n:=s / 65536) (by omega),Zag (n:=s / 16777216) (by omega)]
 rfl
theorem four {l:List UInt8} (h:l.length=4):∃ b0 b1 b2 b3,l=[b0,b1,b2,b3]:=by
 match l,h with
 | [b0,b1,b2,b3],_=>exact ⟨b0,b1,b2,b3,rfl⟩
theorem Zbw (b0 b1 b2 b3:UInt8):arr4 [b0,b1,b2,b3]=.agg #[.int .u8 (b0.toNat:Nat),.int .u8 (b1.toNat:Nat),.int .u8 (b2.toNat:Nat),.int .u8 (b3.toNat:Nat)]:=rfl
theorem row4 {w:World} {g:Nat} {t:TypeId} {b0 b1 b2 b3:UInt8} (h:Whole w g t #[.int .u8 (b0.toNat:Nat),.int .u8 (b1.toNat:Nat),.int .u8 (b2.toNat:Nat),.int .u8 (b3.toNat:Nat)]) :
 Row w w.heap.size (some ⟨g,0,none⟩) 4 ([b0,b1,b2,b3].map byteV) :=
 ⟨rfl,fun k v hv=>⟨⟨g,0,none⟩,rfl,h.lt,by
  rw [show (⟨g,0,none⟩:Addr).add k=⟨g,k,none⟩ by unfold Addr.add;split <;> simp_all,h.cell k]
  simpa [byteV] using hv⟩⟩
theorem J3 {w:World} {ad:Addr} {n c:Nat} {b0 b1 b2 b3:UInt8} {bs:List UInt8} (hs:Sl w (some ad) n c (b0 :: b1 :: b2 :: b3 :: bs)) :
 4≤n∧w.cell? ad=some (.int .u8 (b0.toNat:Nat))∧w.cell? { block:=ad.block,off:=ad.off+1 }=some (.int .u8 (b1.toNat:Nat))∧w.cell? { block:=ad.block,off:=ad.off+2 }=some (.int .u8 (b2.toNat:Nat))∧w.cell? { block:=ad.block,off:=ad.off+3 }=some (.int .u8 (b3.toNat:Nat)):=by
 have h4:4≤n:=by have:=hs.len;simp at this;omega
 obtain ⟨_,e0,hab,c0⟩:=hs.bytes.spot (k:=0) (by omega)
 injection e0 with e0;subst e0
 obtain ⟨_,e1,_,c1⟩:=hs.bytes.spot (k:=1) (by omega)
 injection e1 with e1;subst e1
 obtain ⟨_,e2,_,c2⟩:=hs.bytes.spot (k:=2) (by omega)
 injection e2 with e2;subst e2
 obtain ⟨_,e3,_,c3⟩:=hs.bytes.spot (k:=3) (by omega)
 injection e3 with e3;subst e3
 simp only [List.getD_cons_zero,List.getD_cons_succ,Addr.add_zero',Addr.add_succ',Nat.zero_add,Nat.reduceAdd] at c0 c1 c2 c3
 exact ⟨h4,c0,c1,c2,c3⟩
end Go.Proofs.YtkelafkbmnjpeaaGreat
