/-
  Texts that the statements lean on, one behind the other.
-/
import Derived.Test.YtkelafkbmnjpeaaGreatMG12
import Derived.Test.YtkelafkbmnjpeaaGreatMG13
import Derived.WideMake
set_option maxHeartbeats 4000000
set_option maxRecDepth 100000
namespace Go.Proofs.YtkelafkbmnjpeaaGreat
open Go.Lib (hid)
open Go.RowKit
theorem Zii (kd:Int) (s:ByteArray) (id no size:Int) (LA:Option Addr) (ln lc:Nat) (BA:Option Addr) (bn bc:Nat) (ls:List Lc) (w:World) (hl:Locs w LA ln lc ls) :
 Calls Tryz.prog 277 #[.agg #[.int .i64 kd,.string s,.int .i64 id,.int .i64 no,.int .i64 size,.slice LA ln lc,.slice BA bn bc]] w fun e w'=>e=.returned (.bool (decide (Zbs ls size)))∧Below w.heap.size w w':=by
 have hlen:=hl.len
 have HL:=hid hl
 clear hl
 by_cases h512:512 < ln
 ·have h1:(512:Int) < (ln:Int):=by omega
  go_enter Tryz.func277,Tryz.ntmps277
  go_wp2
  go_ret
  exact ⟨Zu (decide_eq_false fun h=>by have:=h.1;omega).symm,Za _ _⟩
 ·have h1:¬ (512:Int) < (ln:Int):=by omega
  go_enter Tryz.func277,Tryz.ntmps277
  go_wp2
  go_loopw [3,13] (fun t i wr=>∃ (k:Nat) (z:Int),k≤ln∧i=.int .i64 (k:Nat)∧t=.int .i64 z∧Hid (Seen ls k z)∧Hid (Grows (w.alloc (.cells #[.int .i64 kd,.string s,.int .i64 id,.int .i64 no,.int .i64 size,.slice LA ln lc,.slice BA bn bc] 196)) wr)) (fun _ i _=>ln - (intOf i).toNat)
  case atStart=>exact ⟨0,0,by omega,rfl,rfl,hid (Seen.start _),hid (Grows.refl _)⟩
  case round =>
   obtain ⟨k,z,hk,rfl,rfl,HS,HG⟩:=hrel
   have hw:=HG.out.whole (Whole.made w 196 #[.int .i64 kd,.string s,.int .i64 id,.int .i64 no,.int .i64 size,.slice LA ln lc,.slice BA bn bc])
   have c4:=hw.cell 4
   simp only [Gt] at c4
   clear hw
   by_cases hlt:k < ln
   ·obtain ⟨ad,rfl,p0,p1,p2⟩:=(HL.out.grow (Grows.trans (Za w _) HG.out)).spot hlt
    have hz:=HS.out.bound
    have hnx:=HS.out.next (by omega) (k:=k)
    have hill:=Seen.ill (ls:=ls) (k:=k) (by omega)
    have k0:(0:Int)≤(k:Int):=by omega
    have k1:(k:Int) < (ln:Int):=by omega
    generalize ls.getD k (0,0,0)=l at *
    obtain ⟨l0,l1,l2⟩:=l
    dsimp only at p0 p1 p2 hnx
    have q0:=p0 wr (Grows.refl _)
    have q1:=p1 wr (Grows.refl _)
    have q2:=p2 wr (Grows.refl _)
    have HN:=hid (And.intro hnx hill)
    clear p0 p1 p2 hnx hill
    by_cases hok:LocOk (l0,l1,l2)
    ·obtain ⟨⟨a1,a2⟩,⟨a3,a4⟩,a5,a6⟩:=hok
     dsimp only at a1 a2 a3 a4 a5 a6
     have hwr:IntKind.i64.wrap (z+l2)=z+l2:=IntWalk.i64_in _ ⟨by omega,by omega⟩
     have hw64:wrap64 (z+l2)=z+l2:=by rw [←IntWalk.i64_left];exact hwr
     go_wp2
     go_roundw
     case rel=>exact ⟨k+1,z+l2,by omega,by go_num,rfl,hid (HN.out.1 ⟨⟨a1,a2⟩,⟨a3,a4⟩,a5,a6⟩),hid (Grows.trans HG.out (Za _ _))⟩
     case measure=>simp [intOf];omega
    ·have HO:=hid hok
     clear hok
     go_wp2
     all_goals first
      | (go_ret
         exact ⟨Zu (decide_eq_false (HN.out.2 HO.out size)).symm,Below.trans (Za w _) (Below.mono (Grows.trans HG.out (Za _ _)) (Zc5 _ _))⟩)
      | (exfalso
         simp only [Bool.not_eq_false',decide_eq_true_eq] at *
         refine HO.out ⟨⟨?_,?_⟩,⟨?_,?_⟩,?_,?_⟩ <;> dsimp only <;> omega)
   ·obtain rfl:k=ln:=by omega
    have hall:=HS.out
    have hdec:(z==size)=decide (Zbs ls size):=by
     rw [Bool.eq_iff_iff,decide_eq_true_eq,beq_iff_eq]
     rw [←hlen] at hall
     exact (hall.all (by omega) size).symm
    have HD:=hid hdec
    clear hdec hall
    go_wp2
    go_ret
    exact ⟨Zu HD.out,Below.trans (Za w _) (Below.mono HG.out (Zc5 _ _))⟩
def fnV (f:FuncId):Value:=.func (.func f) #[] #[]
def wayV (a b c:FuncId):Value:=.agg #[fnV a,fnV b,fnV c]
def wPiece:Value:=wayV 213 214 215
def wRoot:Value:=wayV 216 217 218
def wInline:Value:=wayV 219 220 221
def wTomb:Value:=wayV 222 223 224
def wNone:Value:=.agg #[.nilFunc,.nilFunc,.nilFunc]
def entV (k:Int) (v:Value) (b:Nat):MapEntry:={ key:=.int .i64 k,val:=v,born:=b }
def ways4:Array MapEntry:=#[entV 1 wPiece 0,entV 2 wRoot 1,entV 3 wInline 2,entV 4 wTomb 3]
theorem Zvi (w:World):∃ w',(Instr.makeMap 194 none).run Tryz.prog w=.ok (.map (some w.heap.size)) w'∧w'.heap[w.heap.size]?=some (.map #[] 0)∧Below w.heap.size w w' :=
 ⟨_,run_makeMap _ w,heap_alloc_new w _,Za _ _⟩
theorem Zey {w:World} {g:Nat} {es:Array MapEntry} {n:Nat} (h:w.heap[g]?=some (.map es n)) (k:Int) (v:Value) (hf:Instr.findNow (.int .i64) (.int .i64 k) es.toList 0=some none) :
 ∃ w',(Instr.mapUpdate 194 (.map (some g)) (.int .i64 k) v).run Tryz.prog w=.ok () w'∧w'.heap[g]?=some (.map (es.push (entV k v n)) (n+1))∧Below g w w':=by
 have hc:(Instr.checkKey false 10000 3 (.int .i64 k)).run Tryz.prog w=.ok () w:=MapKept.run_checkKey (k:=.int .i64 k) Tryz.underlying3 (by simp [MapKept.IsKey]) false 9999
 refine ⟨{ w with heap:=w.heap.setIfInBounds g (.map (es.push (entV k v n)) (n+1)) },?_,(MapKept.heap_set h).1,⟨rfl,rfl,rfl,by simp,fun k hk=>(MapKept.heap_set h).2 k (by omega)⟩⟩
 simp [Instr.mapUpdate,run_underlying Tryz.underlying194,MapKept.run_getObj_map h,hc,MapKept.run_findKey Tryz.underlying3 hf,MapKept.run_setObj_map _ h,Result.andThen,entV]
def Zaf (w:World) (g:Nat):Prop:=w.heap[g]?=some (.map ways4 4)
theorem Zaf.grow {w w':World} {g:Nat} (h:Zaf w g) (hg:Grows w w'):Zaf w' g:=by
 unfold Zaf at *
 rw [hg.block g (Array.getElem?_eq_some_iff.1 h).1]
 exact h
theorem Za5 (w:World) :
 Calls Tryz.prog 144 #[] w fun e w'=>e=.returned (.map (some w.heap.size))∧Zaf w' w.heap.size∧Below w.heap.size w w':=by
 obtain ⟨w1,r1,h1,b1⟩:=Zvi w
 obtain ⟨w2,r2,h2,b2⟩:=Zey h1 1 wPiece rfl
 obtain ⟨w3,r3,h3,b3⟩:=Zey h2 2 wRoot rfl
 obtain ⟨w4,r4,h4,b4⟩:=Zey h3 3 wInline rfl
 obtain ⟨w5,r5,h5,b5⟩:=Zey h4 4 wTomb rfl
 have HB:=Lib.hid (show Zaf w5 w.heap.size∧Below w.heap.size w w5 from ⟨h5,(((b1.trans b2).trans b3).trans b4).trans b5⟩)
 clear h1 h2 h3 h4 h5 b1 b2 b3 b4 b5
 unfold wPiece wayV fnV at r2
 unfold wRoot wayV fnV at r3
 unfold wInline wayV fnV at r4
 unfold wTomb wayV fnV at r5
 go_enter Tryz.func144,Tryz.ntmps144
 go_wp2_with (fail)
 go_ret
 exact ⟨rfl,HB.out⟩
theorem Zdf {w:World} {g:Nat} (h:Zaf w g) (k:Int) (v:Value) (b:Bool) (hf:Instr.findNow (.int .i64) (.int .i64 k) ways4.toList 0=some (if b then some ((k - 1).toNat,v) else none)) (hv:b=false→v=wNone) :
 (Instr.lookup 194 (.map (some g)) (.int .i64 k) true).run Tryz.prog w=.ok (.tuple #[v,.bool b]) w:=by
 have hc:(Instr.checkKey false 10000 3 (.int .i64 k)).run Tryz.prog w=.ok () w:=MapKept.run_checkKey (k:=.int .i64 k) Tryz.underlying3 (by simp [MapKept.IsKey]) false 9999
 have he:ways4.isEmpty=false:=rfl
 have hz:(zeroValue 192).run Tryz.prog w=.ok wNone w:=by kernel_rfl
 cases b with
 | true =>
   simp [Instr.lookup,run_underlying Tryz.underlying194,MapKept.run_getObj_map h,he,hc,MapKept.run_findKey Tryz.underlying3 hf,Result.andThen]
 | false =>
   obtain rfl:=hv rfl
   simp [Instr.lookup,run_underlying Tryz.underlying194,MapKept.run_getObj_map h,he,hc,MapKept.run_findKey Tryz.underlying3 hf,Result.andThen,hz]
def wayOf (k:Int):Value:=if k=1 then wPiece else if k=2 then wRoot else if k=3 then wInline else if k=4 then wTomb else wNone
theorem Zd0 {w:World} {g:Nat} (h:Zaf w g) (k:Int):(Instr.lookup 194 (.map (some g)) (.int .i64 k) true).run Tryz.prog w=.ok (.tuple #[wayOf k,.bool (decide (k=1∨k=2∨k=3∨k=4))]) w:=by
 by_cases h1:k=1
 ·subst h1;exact Zdf h 1 wPiece true rfl (fun h=>by cases h)
 by_cases h2:k=2
 ·subst h2;exact Zdf h 2 wRoot true rfl (fun h=>by cases h)
 by_cases h3:k=3
 ·subst h3;exact Zdf h 3 wInline true rfl (fun h=>by cases h)
 by_cases h4:k=4
 ·subst h4;exact Zdf h 4 wTomb true rfl (fun h=>by cases h)
 rw [decide_eq_false (by omega),wayOf,if_neg h1,if_neg h2,if_neg h3,if_neg h4]
 refine Zdf h k wNone false ?_ (fun _=>rfl)
 simp [ways4,entV,Instr.findNow,Instr.sameNow,beq_eq_false_iff_ne.2 h1,beq_eq_false_iff_ne.2 h2,beq_eq_false_iff_ne.2 h3,beq_eq_false_iff_ne.2 h4]
end Go.Proofs.YtkelafkbmnjpeaaGreat
