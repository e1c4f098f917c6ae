/-
  Texts that the statements lean on, one behind the other.
-/
import Derived.Test.YtkelafkbmnjpeaaGreatRows
import Derived.KernelRfl
import Derived.Maps.OwnSet
import Derived.Sort.KeysCollected
import Derived.IntWalk
import Derived.RowKit
import Derived.Below
import Derived.Laws.OwnMore
import Derived.Laws.Rows
import Derived.Laws.Tables
import Derived.Deep.Draws
import Derived.Deep.AppendLies
import Derived.Deep.QuietTactic
import Derived.WalkKit
import Derived.Laws.BitsAllLaws
import Derived.RangeFuncNested
import Derived.RangeFuncLeaves
set_option linter.unusedSimpArgs false
set_option linter.unusedVariables false
namespace Go.Proofs.YtkelafkbmnjpeaaGreat
theorem own:ownKnob Tryz.prog.godebug=none:=by kernel_rfl
theorem laidOut:laidOutB Tryz.prog=true:=by kernel_rfl
open Go.RowKit
abbrev Nm:=List UInt8
abbrev Dir:=List (Nm×Nat)
def Dir.ins (x:Nm×Nat):Dir→Dir
 | []=>[x]
 | y :: r=>if bytesBefore x.1 y.1 then x :: y :: r else y :: Dir.ins x r
def Dir.del (n:Nm) (l:Dir):Dir:=l.filter fun p=>!(p.1==n)
def Dir.put (n:Nm) (f:Nat) (l:Dir):Dir:=Dir.ins (n,f) (Dir.del n l)
def Dir.find (n:Nm) (l:Dir):Option Nat:=(l.find? fun p=>p.1==n).map (·.2)
inductive Ch where
 | made (n:Nm) (f:Nat)
 | moved (n to:Nm)
 | taken (n:Nm)
def Ch.on:Ch→Dir→Dir
 | .made n f,l=>Dir.put n f l
 | .moved n to,l=>match Dir.find n l with
   | some f=>Dir.put to f (Dir.del n l)
   | none=>l
 | .taken n,l=>Dir.del n l
def redo (cs:List Ch) (l:Dir):Dir:=cs.foldl (fun l c=>c.on l) l
structure Fl where
 bytes:List UInt8
 kept:Nat
structure Dk where
 most:Int
 made:Nat
 used:Int
 names:Dir
 kept:Dir
 pend:List Ch
 done:Int
 fail:Int
 cut:Int
 down:Bool
 files:Nat→Fl
def Dk.new (most:Int):Dk:=⟨min (max most 0) 67108864,0,0,[],[],[],0,-1,-1,false,fun _=>⟨[],0⟩⟩
def sooner (x:Int):Int:=if 0 < x then x - 1 else x
def Dk.sooner (m:Dk):Dk:={ m with cut:=Go.Proofs.YtkelafkbmnjpeaaGreat.sooner m.cut,fail:=Go.Proofs.YtkelafkbmnjpeaaGreat.sooner m.fail }
def Dk.thing (m:Dk) (does:Dk→Dk):Dk×Int :=
 if m.down then (m,82)
 else if m.cut=0 then ({ m.sooner with cut:=-1,down:=true },82)
 else if m.fail=0 then ({ m.sooner with fail:=-1 },81)
 else ({ does m.sooner with done:=wrap64 ((does m.sooner).done+1) },0)
def right (n:Nm):Bool:=decide (1≤n.length)&&decide (n.length≤16)
def Dk.change (m:Dk) (c:Ch):Dk:={ m with names:=c.on m.names,pend:=m.pend++[c] }
def Dk.setFile (m:Dk) (i:Nat) (f:Fl):Dk:={ m with files:=fun j=>if j=i then f else m.files j }
def Dk.doCreate (n:Nm) (m:Dk):Dk :=
 let m1:Dk:={ m with files:=fun j=>if j=m.made then ⟨[],0⟩ else m.files j,made:=m.made+1 }
 m1.change (.made n m.made)
def Dk.doAppend (f:Nat) (b:List UInt8) (m:Dk):Dk :=
 { m.setFile f ⟨(m.files f).bytes++b,(m.files f).kept⟩ with used:=wrap64 (m.used+b.length) }
def Dk.doSync (f:Nat) (m:Dk):Dk:=m.setFile f ⟨(m.files f).bytes,(m.files f).bytes.length⟩
def Dk.size (m:Dk) (n:Nm):Int×Bool:=match Dir.find n m.names with
 | some f=>((m.files f).bytes.length,true)
 | none=>(0,false)
def Dk.doRename (n to:Nm) (m:Dk):Dk:=Dk.change { m with used:=wrap64 (m.used - (m.size to).1) } (.moved n to)
def Dk.doRemove (f:Nat) (n:Nm) (m:Dk):Dk:=Dk.change { m with used:=wrap64 (m.used - (m.files f).bytes.length) } (.taken n)
def Dk.keep (m:Dk) (k:Nat):Dk:={ m with kept:=redo (m.pend.take k) m.kept,pend:=[] }
def Dk.create (m:Dk) (n:Nm):Dk×Int :=
 if m.down then (m,82)
 else if right n=false then (m,1)
 else if (Dir.find n m.names).isSome then (m,4)
 else if 4096≤m.names.length then (m,2)
 else m.thing (Dk.doCreate n)
def Dk.append (m:Dk) (n:Nm) (b:List UInt8):Dk×Int :=
 if m.down then (m,82)
 else match Dir.find n m.names with
  | none=>(m,3)
  | some f=>if m.most < wrap64 (m.used+b.length) then (m,5) else m.thing (Dk.doAppend f b)
def Dk.sync (m:Dk) (n:Nm):Dk×Int :=
 if m.down then (m,82)
 else match Dir.find n m.names with
  | none=>(m,3)
  | some f=>m.thing (Dk.doSync f)
def Dk.rename (m:Dk) (n to:Nm):Dk×Int :=
 if m.down then (m,82)
 else match Dir.find n m.names with
  | none=>(m,3)
  | some _=>if right to=false∨to=n then (m,1) else m.thing (Dk.doRename n to)
def Dk.remove (m:Dk) (n:Nm):Dk×Int :=
 if m.down then (m,82)
 else match Dir.find n m.names with
  | none=>(m,3)
  | some f=>m.thing (Dk.doRemove f n)
def Dk.syncDir (m:Dk):Dk×Int:=m.thing fun m=>m.keep m.pend.length
def Dk.setFail (m:Dk) (x:Int):Dk:={ m with fail:=if 0≤x then x else m.fail }
def more (l:List Int) (k:Nat):Int:=if l.length=0 then 0 else l.getD (k % l.length) 0
def Dk.read (m:Dk) (n:Nm) (x k:Int):Option (List UInt8)×Int :=
 if m.down then (none,82)
 else match Dir.find n m.names with
  | none=>(none,3)
  | some f=>if x < 0∨k < 0∨((m.files f).bytes.length:Int) < x∨((m.files f).bytes.length:Int) - x < k then (none,1)
    else (some (((m.files f).bytes.drop x.toNat).take k.toNat),0)
/-! Names as a map's datum. -/
section
variable {H:Type}
def encD (l:Dir):DataW H:=.map (l.map fun p=>(.string p.1,.lit (.int .i64 (p.2:Int))))
theorem Zgl (n:Nm) (f:Nat):∀ l:Dir,DataW.insert (H:=H) (.string n,.lit (.int .i64 (f:Int))) (l.map fun p=>(.string p.1,.lit (.int .i64 (p.2:Int))))=(Dir.ins (n,f) l).map fun p=>(.string p.1,.lit (.int .i64 (p.2:Int)))
 | []=>rfl
 | y :: r=>by
   show (if bytesBefore n y.1 then _ else _)=_
   unfold Dir.ins
   by_cases h:bytesBefore n y.1=true
   ·rw [if_pos h,if_pos h];rfl
   ·rw [if_neg h,if_neg h,List.map_cons,←Zgl n f r]
theorem Zo5 (n:Nm) (l:Dir):(encD (H:=H) l).del (.string n)=encD (Dir.del n l):=by
 unfold encD DataW.del Dir.del
 simp only [List.filter_map]
 rfl
theorem Zo6 (n:Nm) (f:Nat) (l:Dir):(encD (H:=H) l).put (.string n) (.lit (.int .i64 (f:Int)))=encD (Dir.put n f l):=by
 unfold encD DataW.put Dir.put Dir.del
 simp only [List.filter_map]
 show DataW.map (DataW.insert _ (List.map _ _))=_
 rw [Zgl]
 rfl
theorem Zvc (n:Nm) (l:Dir) (z:DataW H):(encD l).atKey (.string n) z=match Dir.find n l with
 | some f=>.lit (.int .i64 (f:Int))
 | none=>z:=by
 unfold encD DataW.atKey Dir.find
 simp only [List.find?_map]
 have:((fun p:Lit×DataW H=>p.1.sameKey (.string n))∘fun p:Nm×Nat=>((Lit.string p.1,DataW.lit (.int .i64 (p.2:Int))):Lit×DataW H))=fun p=>p.1==n:=rfl
 rw [this]
 cases List.find? (fun p:Nm×Nat=>p.1==n) l <;> rfl
theorem Zui (n:Nm) (l:Dir):Maps.has (encD (H:=H) l) (.string n)=(Dir.find n l).isSome:=by
 unfold encD Dir.find
 rw [Maps.has_eq,List.any_map,Option.isSome_map]
 have:((fun p:Lit×DataW H=>p.1.sameKey (.string n))∘fun p:Nm×Nat=>((Lit.string p.1,DataW.lit (.int .i64 (p.2:Int))):Lit×DataW H))=fun p=>p.1==n:=rfl
 rw [this]
 cases h:List.find? (fun p:Nm×Nat=>p.1==n) l with
 | none =>
   have:=List.find?_eq_none.1 h
   simpa using this
 | some p =>
   have h1:=List.find?_some h
   have h2:=List.mem_of_find?_eq_some h
   exact List.any_eq_true.2 ⟨p,h2,h1⟩
theorem Zb9 (l:Dir):Maps.size (encD (H:=H) l)=l.length:=by simp [encD,Maps.size]
theorem Zr4 (l:Dir):strKeys (encD (H:=H) l)=l.map (·.1):=by
 simp only [encD,strKeys,List.map_map]
 rfl
end
theorem Zk (a:Addr) (n:Nat):(a.add n).block=a.block:=by
 unfold Addr.add
 split <;> rfl
theorem Jg (a:Addr) (i j:Nat):(a.add i).add j=a.add (i+j):=by
 rcases i with _ | i <;> rcases j with _ | j <;> simp [Addr.add,Nat.add_assoc]
structure Row (w:World) (B:Nat) (A:Option Addr) (n:Nat) (xs:List Value):Prop where
 len:xs.length=n
 spot:∀ k v,xs[k]?=some v→∃ ad,A=some ad∧ad.block < B∧w.cell? (ad.add k)=some v
section
variable {w w':World} {B B' n:Nat} {A:Option Addr} {xs:List Value}
theorem Row.nil (w:World) (B:Nat) (A:Option Addr):Row w B A 0 []:=⟨rfl,fun k v h=>by simp at h⟩
theorem Row.carry (h:Row w B A n xs) (hk:∀ p:Addr,p.block < B→w'.cell? p=w.cell? p):Row w' B A n xs :=
 ⟨h.len,fun k v hv=>by
  obtain ⟨ad,e,hb,hc⟩:=h.spot k v hv
  exact ⟨ad,e,hb,by rw [hk _ (by rw [Zk];exact hb)];exact hc⟩⟩
theorem Row.wider (h:Row w B A n xs) (hB:B≤B'):Row w B' A n xs :=
 ⟨h.len,fun k v hv=>by
  obtain ⟨ad,e,hb,hc⟩:=h.spot k v hv
  exact ⟨ad,e,Nat.lt_of_lt_of_le hb hB,hc⟩⟩
theorem Row.below (h:Row w B A n xs) (hb:Below B w w'):Row w' B A n xs:=h.carry fun _ hp=>hb.cell hp
theorem Row.alloc (h:Row w B A n xs) (hB:B≤w.heap.size) (o:Obj):Row (w.alloc o) B A n xs :=
 h.carry fun p hp=>World.cell?_alloc_lt w o p (by omega)
theorem Row.first (h:Row w B A n xs) {k:Nat} (hk:k≤n):Row w B A k (xs.take k) :=
 ⟨by rw [List.length_take,h.len];omega,fun j v hv=>h.spot j v (by
  rw [List.getElem?_take] at hv
  split at hv
  ·exact hv
  ·cases hv)⟩
theorem Row.behind (h:Row w B A n xs) {k cap:Nat} (hk:k≤n) (hc:n≤cap):Row w B (if cap=k then A else A.map (·.add k)) (n - k) (xs.drop k) :=
 ⟨by rw [List.length_drop,h.len],fun j v hv=>by
  rw [List.getElem?_drop] at hv
  obtain ⟨ad,e,hb,hcell⟩:=h.spot _ v hv
  have hl:k+j < xs.length:=by
   rcases Nat.lt_or_ge (k+j) xs.length with hl | hl
   ·exact hl
   ·rw [List.getElem?_eq_none hl] at hv;cases hv
  rw [h.len] at hl
  subst e
  rw [if_neg (by omega)]
  exact ⟨ad.add k,rfl,by rw [Zk];exact hb,by rw [Jg];exact hcell⟩⟩
theorem Row.owned {base:Nat} {e:TypeId} {c:Nat} (h:w.ownsRow base e 1 (.slice A n c) n xs):Row w w.heap.size A n xs:=by
 have hl:xs.length=n:=by have:=h.1;omega
 refine ⟨hl,fun k v hv=>?_⟩
 have hn:0 < n:=by
  rcases Nat.eq_zero_or_pos n with h0 | h0
  ·have:xs=[]:=List.eq_nil_of_length_eq_zero (by omega)
   subst this
   simp at hv
  ·exact h0
 obtain ⟨g,cap,hval,_,hlt⟩:=h.form hn
 injection hval with hA _ _
 subst hA
 exact ⟨_,rfl,hlt,h.cells (g:=g) rfl k v hv⟩
end
def Whole (w:World) (g:Nat) (t:TypeId) (cs:Array Value):Prop:=w.heap[g]?=some (.cells cs t (0,0))
section
variable {w w':World} {g:Nat} {t:TypeId} {cs:Array Value}
theorem Whole.lt (h:Whole w g t cs):g < w.heap.size:=(Array.getElem?_eq_some_iff.1 h).1
theorem Whole.cell (h:Whole w g t cs) (i:Nat):w.cell? ⟨g,i,none⟩=cs[i]?:=cell_of_row w g i cs t (0,0) h
theorem Whole.free (h:Whole w g t cs) (i:Nat):w.frozen? ⟨g,i,none⟩=false:=frozen_of_row w g i cs t h
theorem Whole.made (w:World) (t:TypeId) (cs:Array Value):Whole (w.alloc (.cells cs t)) w.heap.size t cs:=heap_alloc_new w _
theorem Whole.alloc (h:Whole w g t cs) (o:Obj):Whole (w.alloc o) g t cs:=by
 unfold Whole
 rw [heap_alloc_old w o (h:=h.lt)]
 exact h
theorem Whole.put (h:Whole w g t cs) (i:Nat) (u:Value):Whole (w.setCell ⟨g,i,none⟩ u) g t (cs.setIfInBounds i u):=heap_setCell_same w g i cs t u h
theorem Whole.elsewhere (h:Whole w g t cs) {p:Addr} (hp:g≠p.block) (u:Value):Whole (w.setCell p u) g t cs:=by
 unfold Whole
 rw [heap_setCell_other w p g u hp]
 exact h
theorem Whole.below {B:Nat} (h:Whole w g t cs) (hb:Below B w w') (hg:g < B):Whole w' g t cs:=by
 unfold Whole
 rw [hb.block g hg]
 exact h
end
theorem Zd1 {B g:Nat} {a w:World} (h:Below B a w) (hg:B≤g) (cs:Array Value):Below B a (w.setRow g cs) :=
 h.trans ⟨rfl,rfl,rfl,by simp,fun k hk=>setRow_other w g k cs (by omega)⟩
theorem Zkn {B:Nat} {a w:World} (h:Below B a w):(n:Nat)→Below B a (w.drewN n):=fun _=>⟨h.os,h.tape,h.output,h.size,h.block⟩
theorem Zeu {k:IntKind} {a b:Int} (h:a=b):Ending.returned (.int k a)=.returned (.int k b):=by rw [h]
theorem Zm {a b:Bool} (h:a=b):Ending.returned (.bool a)=.returned (.bool b):=by rw [h]
def arrV (f:Nat→Nat):Array Value:=((List.range 256).map fun i=>Value.int .u32 (f i:Nat)).toArray
theorem Y1 (f:Nat→Nat):(arrV f).size=256:=by simp [arrV]
theorem Zea (f:Nat→Nat) (i:Nat) (h:i < 256):(arrV f)[i]?=some (.int .u32 (f i:Nat)):=by
 simp [arrV,h]
theorem Zr5 (f:Nat→Nat):(arrV f).all (·.oneCell')=true:=by
 simp [arrV,Value.oneCell']
theorem Zr6 {f g:Nat→Nat} (h:∀ i,i < 256→f i=g i):arrV f=arrV g:=by
 unfold arrV
 congr 1
 apply List.map_congr_left
 intro i hi
 rw [h i (by simpa using hi)]
theorem Zr7 (f g:Nat→Nat) (k v:Nat) (hk:k < 256) (h:∀ i,i < 256→g i=if i=k then v else f i):(arrV f).setIfInBounds k (.int .u32 (v:Nat))=arrV g:=by
 apply Array.ext_getElem?
 intro i
 rw [Array.getElem?_setIfInBounds]
 by_cases hi:i < 256
 ·rw [Zea g i hi,Zea f i hi,Y1,h i hi]
  by_cases e:k=i
  ·subst e;simp [hk]
  ·rw [if_neg e,if_neg (fun e'=>e e'.symm)]
 ·rw [if_neg (by omega),Array.getElem?_eq_none (by rw [Y1];omega),Array.getElem?_eq_none (by rw [Y1];omega)]
def byteV (b:UInt8):Value:=.int .u8 (b.toNat:Nat)
def Bytes (w:World) (B:Nat) (A:Option Addr) (n:Nat) (bs:List UInt8):Prop:=Row w B A n (bs.map byteV)
section
variable {w w':World} {B B' n:Nat} {A:Option Addr} {bs:List UInt8}
theorem Bytes.len (h:Bytes w B A n bs):bs.length=n:=by have:=Row.len h;simpa using this
theorem Bytes.spot (h:Bytes w B A n bs) {k:Nat} (hk:k < n):∃ ad,A=some ad∧ad.block < B∧w.cell? (ad.add k)=some (.int .u8 ((bs.getD k 0).toNat:Nat)):=by
 have hl:=h.len
 refine Row.spot h k _ ?_
 rw [List.getElem?_map,List.getElem?_eq_getElem (by omega)]
 simp [byteV,show k < bs.length by omega]
theorem Bytes.carry (h:Bytes w B A n bs) (hk:∀ p:Addr,p.block < B→w'.cell? p=w.cell? p):Bytes w' B A n bs:=Row.carry h hk
theorem Bytes.below (h:Bytes w B A n bs) (hb:Below B w w'):Bytes w' B A n bs:=Row.below h hb
theorem Bytes.wider (h:Bytes w B A n bs) (hB:B≤B'):Bytes w B' A n bs:=Row.wider h hB
theorem Bytes.alloc (h:Bytes w B A n bs) (hB:B≤w.heap.size) (o:Obj):Bytes (w.alloc o) B A n bs:=Row.alloc h hB o
theorem Bytes.first (h:Bytes w B A n bs) {k:Nat} (hk:k≤n):Bytes w B A k (bs.take k):=by
 unfold Bytes
 rw [List.map_take]
 exact Row.first h hk
theorem Bytes.nil (w:World) (B:Nat) (A:Option Addr):Bytes w B A 0 []:=Row.nil w B A
end
theorem Pu:(∀ (a:Act) (i:Nat) (v:Value),a.put (some i) v={ a with tmps:=a.tmps.setIfInBounds i v })∧(∀ (a:Act) (v:Value),a.put none v=a)∧(∀ (l:List Value) (i:Nat) (v:Value),l.toArray.setIfInBounds i v=(l.set i v).toArray)∧(∀ (x:Value) (l:List Value) (v:Value),(x :: l).set 0 v=v :: l)∧(∀ (x:Value) (l:List Value) (n:Nat) (v:Value),(x :: l).set (n+1) v=x :: l.set n v):=⟨fun _ _ _=>rfl,fun _ _=>rfl,fun _ _ _=>by simp,fun _ _ _=>rfl,fun _ _ _ _=>rfl⟩
theorem Gt:(∀ (l:List Value) (i:Nat),l.toArray[i]?=l[i]?)∧(∀ (x:Value) (l:List Value),(x :: l)[0]?=some x)∧(∀ (x:Value) (l:List Value) (i:Nat),(x :: l)[i+1]?=l[i]?):=⟨fun _ _=>List.getElem?_toArray ..,fun _ _=>rfl,fun _ _ _=>rfl⟩
def Grows (w w':World):Prop:=Below w.heap.size w w'
theorem Grows.refl (w:World):Grows w w:=Below.refl _ _
theorem Grows.trans {a b c:World} (h:Grows a b) (k:Grows b c):Grows a c:=Below.trans h (Below.mono k h.size)
theorem Grows.whole {w w':World} {g t:Nat} {cs:Array Value} (hb:Grows w w') (h:Whole w g t cs):Whole w' g t cs:=Whole.below h hb h.lt
theorem Grows.row {w w':World} {n:Nat} {A:Option Addr} {xs:List Value} (hb:Grows w w') (h:Row w w.heap.size A n xs):Row w' w'.heap.size A n xs:=Row.wider (Row.below h hb) hb.size
theorem Grows.bytes {w w':World} {n:Nat} {A:Option Addr} {bs:List UInt8} (hb:Grows w w') (h:Bytes w w.heap.size A n bs):Bytes w' w'.heap.size A n bs:=Bytes.wider (Bytes.below h hb) hb.size
section
variable {P:Program} {ops:Array Oper} {C:World→Prop} {Q:Act→Prop} {o:Oper} {rest:List Oper} {a:Act}
theorem q_op (v:Value) (hw:Region.wanted o (yielded ops a.tmps)=true) (h1:∀ w,C w→(execOp a.eval o).run P w=.ok (.value v) w) (h2:wpQuiet P ops C Q rest (a.put o.dst v)):wpQuiet P ops C Q (o :: rest) a:=by
 unfold wpQuiet
 rw [if_pos hw]
 refine ⟨v,fun w hC=>?_,h2⟩
 unfold Oper.quietAt
 rw [h1 w hC]
 exact ⟨rfl,rfl⟩
theorem q_op' {v:Value} {a':Act} (hw:Region.wanted o (yielded ops a.tmps)=true) (h1:∀ w,C w→(execOp a.eval o).run P w=.ok (.value v) w) (ha:a.put o.dst v=a') (h2:wpQuiet P ops C Q rest a'):wpQuiet P ops C Q (o :: rest) a:=by
 subst ha
 exact q_op v hw h1 h2
theorem Zgm (f:FuncId) (args:Array Value) (v:Value) (hw:Region.wanted o (yielded ops a.tmps)=true) (h1:∀ w,C w→(execOp a.eval o).run P w=.ok (.enter f args) w)
 (hc:∀ w,C w→Calls P f args w fun e w'=>e=.returned v∧C w') (h2:wpQuiet P ops C Q rest (a.put o.dst v)):wpQuiet P ops C Q (o :: rest) a:=by
 unfold wpQuiet
 rw [if_pos hw]
 refine ⟨v,fun w hC=>?_,h2⟩
 unfold Oper.quietAt
 rw [h1 w hC]
 exact ⟨rfl,hc w hC⟩
theorem Zl4 (hw:Region.wanted o (yielded ops a.tmps)=false) (h2:wpQuiet P ops C Q rest (a.put o.dst undef)):wpQuiet P ops C Q (o :: rest) a:=by
 unfold wpQuiet
 rw [if_neg (by simp [hw])]
 exact h2
end
theorem Yc {P:Program} {id:Nat} {Q:Exit→Act→World→Prop} {a:Act} {w:World} {l:List Oper} (hm:P.follows .mixedOrders=true) (hB:Region.lexB .any l.toArray=true)
 (h:wpQuiet P l.toArray (Grows w) (fun a'=>∀ w',Grows w w'→Q .normal a' w') l a):(Code.region id l.toArray true).wp P Q a w :=
 wp_region_quiet (C:=Grows w) hm hB (show Below w.heap.size w { w with drawn:=w.drawn+1 } from ⟨rfl,rfl,rfl,Nat.le_refl _,fun _ _=>rfl⟩) (by simpa using h)
theorem Zvd (x y:Nat) (hx:x < 256) (hy:y < 256):bits BinOp.xor IntKind.u8 (x:Int) (y:Int)=((x ^^^ y:Nat):Int):=by
 have hxy:x ^^^ y < 2 ^ 8:=Nat.xor_lt_two_pow (by omega) (by omega)
 have h1:∀ z:Nat,z < 256→(BitVec.ofInt 8 (z:Int)).toNat=z:=fun z hz=>by
  rw [BitVec.ofInt_natCast,BitVec.toNat_ofNat];exact Nat.mod_eq_of_lt (by omega)
 show IntKind.u8.wrap ((BitVec.ofInt 8 (x:Int) ^^^ BitVec.ofInt 8 (y:Int)).toNat:Int)=_
 rw [BitVec.toNat_xor,h1 x hx,h1 y hy,IntKind.wrap_u8']
 omega
structure Zc (own:Nat→Prop) (w w':World):Prop where
 os:w'.os=w.os
 tape:w'.tape=w.tape
 output:w'.output=w.output
 size:w.heap.size≤w'.heap.size
 same:∀ k,k < w.heap.size→¬ own k→w'.heap[k]?=w.heap[k]?
section
variable {own own':Nat→Prop} {a b c w w':World}
theorem Zc.refl (own:Nat→Prop) (w:World):Zc own w w:=⟨rfl,rfl,rfl,Nat.le_refl _,fun _ _ _=>rfl⟩
theorem Zc.trans (h:Zc own a b) (k:Zc own b c):Zc own a c :=
 ⟨k.os.trans h.os,k.tape.trans h.tape,k.output.trans h.output,Nat.le_trans h.size k.size,fun i hi ho=>(k.same i (Nat.lt_of_lt_of_le hi h.size) ho).trans (h.same i hi ho)⟩
theorem Zc.wider (h:Zc own a b) (hw:∀ k,k < a.heap.size→own k→own' k):Zc own' a b :=
 ⟨h.os,h.tape,h.output,h.size,fun k hk ho=>h.same k hk fun h=>ho (hw k hk h)⟩
theorem Zc.grows (h:Grows a b):Zc own a b:=⟨h.os,h.tape,h.output,h.size,fun k hk _=>h.block k hk⟩
theorem Zc.alloc (h:Zc own a w) (o:Obj):Zc own a (w.alloc o) :=
 h.trans (Zc.grows ((Below.refl _ _).alloc (Nat.le_refl _) o))
theorem Zc.setCell (h:Zc own a w) {p:Addr} (hp:own p.block) (u:Value):Zc own a (w.setCell p u) :=
 h.trans ⟨rfl,rfl,rfl,by simp [World.setCell],fun k _ ho=>Below.heap_setCell _ _ _ k (fun e=>ho (e ▸ hp))⟩
theorem Zc.grown {row:Option Nat} (h:Zc own a w) (hg:w.grownBy w' row) (hr:∀ g,row=some g→own g):Zc own a w' :=
 h.trans ⟨hg.os,hg.tape,hg.output,hg.size,fun k hk ho=>hg.block k hk fun e=>ho (hr k e.symm)⟩
theorem Zc.drew (h:Zc own a w):Zc own a w.drew:=⟨h.os,h.tape,h.output,h.size,h.same⟩
theorem Zc.below {B:Nat} (h:Zc own a w) (hB:B≤a.heap.size) (ho:∀ k,k < B→¬ own k):Below B a w:=⟨h.os,h.tape,h.output,h.size,fun k hk=>h.same k (by omega) (ho k hk)⟩
end
def Zj (B:Nat) (w w':World):Prop:=Zc (fun k=>B≤k∧∀ cs t fr,w.heap[k]?≠some (.cells cs t fr)) w w'
section
variable {B:Nat} {a b c w w':World}
theorem Zj.held (h:Zj B w w') {k:Nat} {cs:Array Value} {t:TypeId} {fr:Nat×Nat} (hk:w.heap[k]?=some (.cells cs t fr)):w'.heap[k]?=some (.cells cs t fr) :=
 (Zc.same h k (Array.getElem?_eq_some_iff.1 hk).1 fun h=>h.2 _ _ _ hk).trans hk
theorem Zj.grows (h:Grows w w'):Zj B w w':=Zc.grows h
theorem Zj.trans (h:Zj B a b) (k:Zj B b c):Zj B a c:=by
 refine ⟨k.os.trans h.os,k.tape.trans h.tape,k.output.trans h.output,Nat.le_trans h.size k.size,fun i hi ho=>?_⟩
 rw [←Zc.same h i hi ho]
 refine Zc.same k i (Nat.lt_of_lt_of_le hi h.size) fun ⟨h1,h2⟩=>ho ⟨h1,fun cs t fr e=>h2 cs t fr (h.held e)⟩
theorem Zj.putObj {l:Nat} {o:Obj} (h:w.heap[l]?=some o) (ho:o.isCells=false) (hl:B≤l) (o':Obj):Zj B w (w.putObj l o') :=
 ⟨rfl,rfl,rfl,by simp,fun k _ hn=>World.putObj_heap_other fun e=>hn (by
  subst e
  exact ⟨hl,fun cs t fr h'=>by rw [h] at h';injection h' with h';subst h';cases ho⟩)⟩
theorem Zj.boxed (h:Zj B w w') {k:Nat} {t:TypeId} {v:Value} (hk:Boxed w k t v):Boxed w' k t v:=h.held hk
theorem Zj.under (h:Zj B w w') {n₀:Nat} (h1:n₀≤B) (h2:n₀≤w.heap.size):Below n₀ w w':=Zc.below h h2 fun k hk h=>by omega
theorem Zj.cell (h:Zj B w w') {p:Addr} {v:Value} (hp:w.cell? p=some v):w'.cell? p=some v:=by
 obtain ⟨o,ho,hc⟩:=cells_of_cell hp
 cases o <;> first | (cases hc;done) | skip
 exact (World.cell?_of_block ((h.held ho).trans ho.symm)).trans hp
theorem Zj.owned (h:Zj B w w') {base:Nat} {e:TypeId} {size:Nat} {v:Value} {n:Nat} {xs:List Value} (hv:w.ownsRow base e size v n xs):w'.ownsRow base e size v n xs:=by
 obtain ⟨h1,h2⟩:=hv
 refine ⟨h1,?_⟩
 rcases h2 with h2 | ⟨g,cap,cur,hv,hb,hh,r⟩
 ·exact .inl h2
 ·exact .inr ⟨g,cap,cur,hv,hb,h.held hh,r⟩
end
def Mine (n₀ m n₁:Nat) (w:World) (k:Nat):Prop:=(n₀≤k∧k < m)∨(n₁≤k∧∃ cs t fr,w.heap[k]?=some (.cells cs t fr))
def Gives {α:Type} (P:Program) (n:Nat) (g:Nat) (lb:Array Value) (encs:α→Array Value) (Gd:List α→α→World→World→Prop) (Safe:Nat→Prop) (S Sp:List α→Prop) (w:World):Prop :=
 ∀ (l:Nat) (J Jx:List α→World→Prop) (W:World),Grows w W→(∀ s A B,J s A→Grows A B→J s B)→(∀ s A B,Jx s A→Grows A B→Jx s B) →
  (∀ pre x W0 W1,J pre W0→Grows W0 W1→Gd pre x W0 W1→YieldAt Fence.wide n P l (encs x) W1 fun e W' =>
    (e=.returned (.bool true)∧J (pre++[x]) W'∧W1.heap.size≤W'.heap.size∧∀ k,k < W1.heap.size→Safe k∨W0.heap.size≤k→W'.heap[k]?=W1.heap[k]?)∨(e=.returned (.bool false)∧Jx (pre++[x]) W')) →
  J [] W →
  CallsIn Fence.wide n P g (#[.func (.yield l) #[] #[]]++lb) W fun e W'=>(∃ v,e=.returned v)∧((∃ xs,S xs∧J xs W')∨(∃ pre,Sp pre∧Jx pre W'))
def Zja {α:Type} (own:Nat→Prop) (I Ix:List α→World→Prop) (xs:List α) (W:World):Exit→Act→World→Prop
 | .normal,_,W'=>Zc own W W'∧I xs W'
 | .ret,_,W'=>Zc own W W'∧Ix xs W'
 | _,_,_=>False
theorem Zbm {α:Type} {P:Program} {n:Nat} {g:Operand} {ps:Array Tmp} {assign body:Code} {Q:Exit→Act→World→Prop} {a:Act} {w:World}
 {gf:Nat} {lb:Array Value} (hg:a.eval g=.func (.func gf) #[] lb) (eg:∀ args w,(callFunc gf args).run P w=.ok (.enter gf args) w)
 {encs:α→Array Value} {Gd:List α→α→World→World→Prop} {Safe:Nat→Prop} {S Sp:List α→Prop} (hseq:Gives P (n - 1) gf lb encs Gd Safe S Sp w) (hps:∀ x,(encs x).size=ps.size)
 (n₀ m:Nat) (hnm:n₀≤m) (hm:m≤w.heap.size) (hsafe:∀ k,Safe k→k < n₀∨(m≤k∧k < w.heap.size))
 (I Ix:List α→World→Prop) (hI:∀ s A B,I s A→Zj w.heap.size A B→I s B) (hIx:∀ s A B,Ix s A→Zj w.heap.size A B→Ix s B) (h0:I [] w)
 (hround:∀ (l:Nat) (pre:List α) (x:α) (W0 W:World),w.heap.size≤W0.heap.size→I pre W0→Grows W0 W→Gd pre x W0 W →
   assign.wpIn (Fence.wide.inRound l) (n - 1) P (Exit.then (fun a₁ Wa=>Grows W Wa∧∀ Wb,Zj w.heap.size Wa Wb →
    body.wpIn (Fence.wide.inRound l) (n - 1) P (Zja (Mine n₀ m w.heap.size W0) I Ix (pre++[x]) Wb) a₁ Wb) (fun _ _ _=>False)) { tmps:=(ps.zip (encs x)).foldl (fun t (p,v)=>t.setIfInBounds p v) a.tmps,defers:=[] } W)
 (hdone:∀ (D:Nat) (xs:List α) (W:World),w.heap.size≤D→S xs→I xs W→W.heap[D]?=some (.deferred (some []))→Q .normal { a with defers:={ target:=.collected D,args:=#[] } :: a.defers } W)
 (hstop:∀ (D:Nat) (pre:List α) (W:World),w.heap.size≤D→Sp pre→Ix pre W→W.heap[D]?=some (.deferred (some []))→Code.ret.wpIn Fence.wide n P Q { a with defers:={ target:=.collected D,args:=#[] } :: a.defers } W) :
 (Code.rangeFunc g ps assign body).wpIn Fence.wide n P Q a w:=by
 refine wpIn_rangeFunc fun fn _=>?_
 rw [show Fence.wide.round=none from rfl]
 obtain ⟨rec,hrec⟩:∃ rec:LoopState→Option Code→Loop,rec=fun st pe=>{ state:=st,pending:=pe,fn,tmps:=a.tmps,params:=ps,assign,body,defers:=w.heap.size }:=⟨_,rfl⟩
 have hrun:=run_enterLoop_outer (P:=P) (w:=w) fn a.tmps ps assign body
 rw [show ({ state:=.ready,pending:=none,fn,tmps:=a.tmps,params:=ps,assign,body,defers:=w.heap.size }:Loop)=rec .ready none by rw [hrec]] at hrun
 have hD0:((w.alloc (.deferred (some []))).alloc (.loop (rec .ready none))).heap[w.heap.size]?=some (.deferred (some [])):=(Below.heap_alloc _ _ _ (by simp)).trans (World.alloc_heap_new w _)
 have hL0:((w.alloc (.deferred (some []))).alloc (.loop (rec .ready none))).heap[w.heap.size+1]?=some (.loop (rec .ready none)):=by
  have:=World.alloc_heap_new (w.alloc (.deferred (some []))) (.loop (rec .ready none));rwa [World.size_alloc] at this
 have hG0:Grows w ((w.alloc (.deferred (some []))).alloc (.loop (rec .ready none))):=((Below.refl _ w).alloc (Nat.le_refl _) _).alloc (by simp) _
 generalize (w.alloc (.deferred (some []))).alloc (.loop (rec .ready none))=V at *
 refine ⟨w.heap.size+1,_,V,{ target:=.fn (.func gf) lb,args:=#[.func (.yield (w.heap.size+1)) #[] #[]] },V,gf,#[.func (.yield (w.heap.size+1)) #[] #[]]++lb,V,hrun,?_,fun _ _=>trivial,?_,(fun h=>by cases h),?_⟩
 ·simp only [resolve,hg]
  simp [go_sem]
 ·simp [invoke,go_sem,eg]
 have stay:∀ {A B:World} {k:Nat} {o:Obj},A.heap[k]?=some o→Grows A B→B.heap[k]?=some o:=fun hk hb=>(hb.block _ (Array.getElem?_eq_some_iff.1 hk).1).trans hk
 -- what an iterator is told of: the caller's own, the loop's record, the block for deferred calls
 refine (hseq (w.heap.size+1) (fun s W=>I s W∧W.heap[w.heap.size+1]?=some (.loop (rec .ready none))∧W.heap[w.heap.size]?=some (.deferred (some [])))
  (fun s W=>Ix s W∧W.heap[w.heap.size+1]?=some (.loop (rec .done (some .ret)))∧W.heap[w.heap.size]?=some (.deferred (some []))) V hG0
  (fun s A B h hb=>⟨hI s A B h.1 (.grows hb),stay h.2.1 hb,stay h.2.2 hb⟩) (fun s A B h hb=>⟨hIx s A B h.1 (.grows hb),stay h.2.1 hb,stay h.2.2 hb⟩) ?_ ⟨hI [] w V h0 (.grows hG0),hL0,hD0⟩).mono ?_
 ·rintro pre x W0 W ⟨hi,hl,hd⟩ hb hgd
  have hl1:=stay hl hb
  have hd1:=stay hd hb
  have hsz:w.heap.size+1 < W0.heap.size:=(Array.getElem?_eq_some_iff.1 hl).1
  have hy:=run_yield (P:=P) (args:=encs x) hl1 (by rw [hrec];exact hps x)
  rw [hrec] at hy
  refine ⟨fn,_,assign,body,hy,roundIn_of_wpIn trivial (wpIn_mono (hround _ pre x W0 W (by omega) hi hb hgd) ?_)⟩
  intro e a₁ Wa he
  cases e <;> first | exact he.elim | skip
  obtain ⟨hga,hbody⟩:=he
  have hl2:=stay hl1 hga
  have hd2:=stay hd1 hga
  refine ⟨_,run_beginRound hl2 (by rw [hrec]),?_⟩
  have hsz2:w.heap.size+1 < Wa.heap.size:=(Array.getElem?_eq_some_iff.1 hl2).1
  have hl3:(Wa.putObj (w.heap.size+1) (.loop { rec .ready none with state:=.busy })).heap[w.heap.size+1]?=some (.loop { rec .ready none with state:=.busy }):=World.putObj_heap_same hsz2
  have hd3:(Wa.putObj (w.heap.size+1) (.loop { rec .ready none with state:=.busy })).heap[w.heap.size]?=some (.deferred (some [])):=(World.putObj_heap_other (by omega)).trans hd2
  have hcw:Zj w.heap.size Wa (Wa.putObj (w.heap.size+1) (.loop { rec .ready none with state:=.busy })):=.putObj hl2 rfl (by omega) _
  have hother:∀ k,k≠w.heap.size+1→(Wa.putObj (w.heap.size+1) (.loop { rec .ready none with state:=.busy })).heap[k]?=Wa.heap[k]?:=fun k hk=>World.putObj_heap_other hk
  have hbd:=hbody _ hcw
  have hszb:(Wa.putObj (w.heap.size+1) (.loop { rec .ready none with state:=.busy })).heap.size=Wa.heap.size:=by simp
  generalize Wa.putObj (w.heap.size+1) (.loop { rec .ready none with state:=.busy })=Wb at *
  refine wpIn_mono hbd ?_
  -- what is no one's own stays
  have keepL:∀ {W':World},Zc (Mine n₀ m w.heap.size W0) Wb W'→W'.heap[w.heap.size+1]?=some (.loop { rec .ready none with state:=.busy })∧W'.heap[w.heap.size]?=some (.deferred (some [])):=fun hs =>
   ⟨(hs.same _ (Array.getElem?_eq_some_iff.1 hl3).1 (fun h=>by
     rcases h with h | ⟨_,cs,t,fr,h⟩
     ·omega
     ·rw [hl] at h;cases h)).trans hl3,
    (hs.same _ (Array.getElem?_eq_some_iff.1 hd3).1 (fun h=>by
     rcases h with h | ⟨_,cs,t,fr,h⟩
     ·omega
     ·rw [hd] at h;cases h)).trans hd3⟩
  have fin:∀ (jump:Option Code) (W':World),Zc (Mine n₀ m w.heap.size W0) Wb W' →
   (Instr.endRound (w.heap.size+1) jump).run P W'=.ok (.bool jump.isNone) (W'.putObj (w.heap.size+1) (.loop (rec (if jump.isNone then .ready else .done) jump))) ∧
   Zj w.heap.size W' (W'.putObj (w.heap.size+1) (.loop (rec (if jump.isNone then .ready else .done) jump))) ∧
   (W'.putObj (w.heap.size+1) (.loop (rec (if jump.isNone then .ready else .done) jump))).heap[w.heap.size+1]?=some (.loop (rec (if jump.isNone then .ready else .done) jump)) ∧
   (W'.putObj (w.heap.size+1) (.loop (rec (if jump.isNone then .ready else .done) jump))).heap[w.heap.size]?=some (.deferred (some [])):=fun jump W' hs=>by
   obtain ⟨k1,k2⟩:=keepL hs
   have hr:=run_endRound (P:=P) jump k1
   rw [hrec] at hr k1 ⊢
   exact ⟨hr,.putObj k1 rfl (by omega) _,World.putObj_heap_same (Array.getElem?_eq_some_iff.1 k1).1,(World.putObj_heap_other (by omega)).trans k2⟩
  intro e a₂ W' hp
  cases e <;> first | exact hp.elim | skip
  · -- off its end
    obtain ⟨hs,hi'⟩:=hp
    obtain ⟨hr,hc,k1,k2⟩:=fin none W' hs
    refine ⟨_,_,hr,.inl ⟨rfl,⟨hI _ _ _ hi' hc,k1,k2⟩,?_,?_⟩⟩
    ·rw [World.putObj_size]
     exact Nat.le_trans hga.size (Nat.le_trans (by omega) hs.size)
    ·intro k hk hcase
     have hk1:k≠w.heap.size+1:=by
      rcases hcase with h | h
      ·have:=hsafe k h;omega
      ·omega
     have hkb:k < Wb.heap.size:=by have:=hga.size;omega
     rw [World.putObj_heap_other hk1,hs.same k hkb,hother k hk1,hga.block k hk]
     rintro (h | ⟨h,cs,t,fr,hh⟩)
     ·rcases hcase with hc | hc
      ·have:=hsafe k hc;omega
      ·omega
     ·rcases hcase with hc | hc
      ·have:=hsafe k hc;omega
      ·have:=(Array.getElem?_eq_some_iff.1 hh).1;omega
  · -- by a return
    obtain ⟨hs,hi'⟩:=hp
    obtain ⟨hr,hc,k1,k2⟩:=fin (some .ret) W' hs
    exact ⟨_,_,hr,.inr ⟨rfl,hIx _ _ _ hi' hc,k1,k2⟩⟩
 ·rintro e W2 ⟨⟨v,rfl⟩,(⟨xs,hS,hi,hl,hd⟩ | ⟨pre,hSp,hi,hl,hd⟩)⟩
  ·have hr:(Instr.endLoop (w.heap.size+1)).run P W2=.ok none (W2.putObj (w.heap.size+1) (.loop { rec .ready none with state:=.exhausted })):=by
    have hr:=run_endLoop (P:=P) hl (by rw [hrec];simp)
    rw [hrec] at hr ⊢
    exact hr
   refine ⟨none,_,hr,hdone _ xs _ (Nat.le_refl _) hS (hI _ _ _ hi (.putObj hl rfl (by omega) _)) ((World.putObj_heap_other (by omega)).trans hd)⟩
  ·have hr:(Instr.endLoop (w.heap.size+1)).run P W2=.ok (some .ret) (W2.putObj (w.heap.size+1) (.loop { rec .done (some .ret) with state:=.exhausted })):=by
    have hr:=run_endLoop (P:=P) hl (by rw [hrec];simp)
    rw [hrec] at hr ⊢
    exact hr
   refine ⟨some .ret,_,hr,hstop _ pre _ (Nat.le_refl _) hSp (hIx _ _ _ hi (.putObj hl rfl (by omega) _)) ((World.putObj_heap_other (by omega)).trans hd)⟩
end Go.Proofs.YtkelafkbmnjpeaaGreat
