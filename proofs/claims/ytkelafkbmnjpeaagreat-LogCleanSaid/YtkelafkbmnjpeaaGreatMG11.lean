/-
  Texts that the statements lean on, one behind the other.
-/
import Derived.Test.YtkelafkbmnjpeaaGreatMG10
import Derived.KernelRfl
import Derived.Test.YtkelafkbmnjpeaaGreatMG01
import Derived.Laws.AppendOwn
import Derived.LoopTactic
import Derived.IntWalk
import Derived.OwnWalk
import Derived.Lib.Hide
import Derived.Laws.BitsAllLaws
import Derived.Lib.AppendStr
namespace Go.Proofs.YtkelafkbmnjpeaaGreat

def Good (b:List UInt8):Prop:=1≤b.length∧b.length≤8192
instance (b:List UInt8):Decidable (Good b):=inferInstanceAs (Decidable (_∧_))
def putL:List (List UInt8)→List UInt8
 | []=>[]
 | b :: r=>putB b++putL r
def itsL:List (List UInt8)→Nat→List (Nat×Nat×List UInt8)
 | [],_=>[]
 | b :: r,a=>if Good b then (a,b.length+8,b) :: itsL r (a+(b.length+8)) else itsL r a
theorem Yf {b:List UInt8} (h:Good b):putB b=Yu b:=by unfold putB;exact if_pos h
theorem Zet {b:List UInt8} (h:¬ Good b):putB b=[]:=by unfold putB;exact if_neg h
theorem putL_append:∀ (l r:List (List UInt8)),putL (l++r)=putL l++putL r
 | [],_=>rfl
 | b :: l,r=>by rw [List.cons_append,putL,putL,putL_append l r,List.append_assoc]
theorem itsL_sizes:∀ (l:List (List UInt8)) (a:Nat) (t:Nat×Nat×List UInt8),t∈itsL l a→a≤t.1∧t.1+t.2.1≤a+(putL l).length∧9≤t.2.1
 | [],_,_,h=>by cases h
 | b :: l,a,t,h=>by
   rw [itsL] at h
   by_cases hb:Good b
   ·rw [if_pos hb] at h
    rw [putL,List.length_append,Yf hb,Zn]
    have hg:1≤b.length:=hb.1
    rcases List.mem_cons.1 h with rfl | h
    ·dsimp only;omega
    ·have:=itsL_sizes l _ t h;omega
   ·rw [if_neg hb] at h
    rw [putL,Zet hb]
    exact itsL_sizes l a t h
theorem itsL_count:∀ (l:List (List UInt8)) (a:Nat),9*(itsL l a).length≤(putL l).length
 | [],_=>by simp [itsL,putL]
 | b :: l,a=>by
   rw [itsL,putL,List.length_append]
   by_cases hb:Good b
   ·rw [if_pos hb,Yf hb,Zn,List.length_cons]
    have:=itsL_count l (a+(b.length+8))
    have hg:1≤b.length:=hb.1
    omega
   ·rw [if_neg hb]
    have:=itsL_count l a
    omega
end Go.Proofs.YtkelafkbmnjpeaaGreat

namespace Go.Proofs.YtkelafkbmnjpeaaGreat

structure Mn where
  segs : List Int
  next : Int
  deriving DecidableEq
def Mn.none : Mn := ⟨[], 0⟩
def upTo : Int → List Int → Option Int
  | a, [] => some a
  | a, n :: r => if n ≤ a then Option.none else upTo n r
theorem upTo_snoc : ∀ (l : List Int) (a n : Int), upTo a (l ++ [n]) = match upTo a l with
    | some z => if n ≤ z then Option.none else some n
    | Option.none => Option.none
  | [], a, n => by simp only [List.nil_append, upTo]
  | x :: l, a, n => by
    rw [List.cons_append, upTo, upTo]
    by_cases h : x ≤ a
    · rw [if_pos h, if_pos h]
    · rw [if_neg h, if_neg h, upTo_snoc l x n]
theorem upTo_append_none : ∀ (l r : List Int) (a : Int), upTo a l = Option.none → upTo a (l ++ r) = Option.none
  | [], _, _, h => by cases h
  | x :: l, r, a, h => by
    rw [List.cons_append, upTo]
    rw [upTo] at h
    by_cases hx : x ≤ a
    · rw [if_pos hx]
    · rw [if_neg hx] at h ⊢
      exact upTo_append_none l r x h
theorem upTo_ge : ∀ (l : List Int) (a z : Int), upTo a l = some z → a ≤ z ∧ ∀ n ∈ l, a < n ∧ n ≤ z
  | [], a, z, h => by
    injection h with h
    subst h
    exact ⟨Int.le_refl _, fun n hn => by cases hn⟩
  | x :: l, a, z, h => by
    rw [upTo] at h
    by_cases hx : x ≤ a
    · rw [if_pos hx] at h; cases h
    · rw [if_neg hx] at h
      obtain ⟨h1, h2⟩ := upTo_ge l x z h
      refine ⟨by omega, fun n hn => ?_⟩
      rcases List.mem_cons.1 hn with rfl | hn
      · exact ⟨by omega, h1⟩
      · have := h2 n hn
        exact ⟨by omega, this.2⟩
def Z1 (m : Mn) : Bool := decide (m.segs.length ≤ 1000) && (match upTo (-1) m.segs with
  | some z => decide (z < m.next ∧ m.next ≤ 99999999)
  | Option.none => false)
theorem Zcc {m : Mn} (h : Z1 m = true) : m.segs.length ≤ 1000 := by
  unfold Z1 at h
  rw [Bool.and_eq_true, decide_eq_true_eq] at h
  exact h.1
theorem Zky {m : Mn} (h : Z1 m = true) : (0 ≤ m.next ∧ m.next ≤ 99999999) ∧ ∀ n ∈ m.segs, 0 ≤ n ∧ n ≤ 99999999 := by
  unfold Z1 at h
  rw [Bool.and_eq_true] at h
  obtain ⟨_, h⟩ := h
  cases hz : upTo (-1) m.segs with
  | none => rw [hz] at h; cases h
  | some z =>
    rw [hz] at h
    have h := of_decide_eq_true h
    obtain ⟨h1, h2⟩ := upTo_ge _ _ _ hz
    refine ⟨by omega, fun n hn => ?_⟩
    have := h2 n hn
    omega
def numsB : List Int → List UInt8
  | [] => []
  | n :: l => numB n 4 ++ numsB l
theorem numsB_length : ∀ l, (numsB l).length = 4 * l.length
  | [] => rfl
  | n :: l => by rw [numsB, List.length_append, Zw, numsB_length l, List.length_cons]; omega
theorem numsB_append : ∀ a b, numsB (a ++ b) = numsB a ++ numsB b
  | [], _ => rfl
  | n :: a, b => by rw [List.cons_append, numsB, numsB, numsB_append a b, List.append_assoc]
theorem Znn (a : List Int) (n : Int) : numsB (a ++ [n]) = numsB a ++ numB n 4 := by rw [numsB_append, numsB, numsB, List.append_nil]
def headM (m : Mn) : List UInt8 := 8 :: (numB m.next 4 ++ numB m.segs.length 2)
def bodyM (m : Mn) : List UInt8 := headM m ++ numsB m.segs
theorem Zef (m : Mn) : (headM m).length = 7 := by unfold headM; simp [Zw]
theorem Zbr (m : Mn) : (bodyM m).length = 7 + 4 * m.segs.length := by unfold bodyM; rw [List.length_append, Zef, numsB_length]
def putM (m : Mn) : List UInt8 := if Z1 m = true then putB (bodyM m) else []
theorem Zdx {m : Mn} (h : Z1 m = true) : Good (bodyM m) := by
  have := Zcc h
  have := Zbr m
  unfold Good
  omega
theorem Zdy {m : Mn} (h : Z1 m = true) : putM m = Yu (bodyM m) := by unfold putM; rw [if_pos h, Yf (Zdx h)]
theorem Zkz {m : Mn} (h : Z1 m = true) : (putM m).length = 15 + 4 * m.segs.length := by rw [Zdy h, Zn, Zbr]; omega
theorem Zmf {m : Mn} (h : Z1 m = false) : putM m = [] := by unfold putM; rw [h]; rfl
theorem Zg8 (m : Mn) : (putM m).length ≤ 4015 := by
  cases h : Z1 m with
  | false => rw [Zmf h]; simp
  | true => rw [Zkz h]; have := Zcc h; omega
def foursL : List UInt8 → List Int
  | a :: b :: c :: d :: r => valB [a, b, c, d] :: foursL r
  | _ => []
theorem Zpt (n : Int) : ∃ a b c d, numB n 4 = [a, b, c, d] := ⟨_, _, _, _, rfl⟩
theorem fours_nums : ∀ l : List Int, (∀ n ∈ l, 0 ≤ n ∧ n ≤ 99999999) → foursL (numsB l) = l
  | [], _ => rfl
  | n :: l, h => by
    have h1 := h n (List.mem_cons_self ..)
    have hv : valB (numB n 4) = n := Zk0 n 4 h1.1 (by omega)
    obtain ⟨a, b, c, d, e⟩ := Zpt n
    rw [numsB, e]
    rw [e] at hv
    show valB [a, b, c, d] :: foursL (numsB l) = _
    rw [hv, fours_nums l fun x hx => h x (List.mem_cons_of_mem _ hx)]
theorem nums_fours : ∀ (k : Nat) (bs : List UInt8), bs.length = 4 * k → numsB (foursL bs) = bs ∧ (foursL bs).length = k
  | 0, bs, h => by
    obtain rfl : bs = [] := List.eq_nil_of_length_eq_zero (by omega)
    exact ⟨rfl, rfl⟩
  | k + 1, bs, h => by
    match bs, h with
    | a :: b :: c :: d :: r, h =>
      obtain ⟨h1, h2⟩ := nums_fours k r (by simp only [List.length_cons] at h; omega)
      refine ⟨?_, by rw [foursL, List.length_cons, h2]⟩
      rw [foursL, numsB, h1]
      have := Zcd [a, b, c, d]
      rw [show ([a, b, c, d] : List UInt8).length = 4 from rfl] at this
      rw [this]
      rfl
def toldM (b : List UInt8) : Option Mn :=
  if b.length < 7 ∨ b.getD 0 0 ≠ 8 then Option.none
  else if ((b.length - 7 : Nat) : Int) ≠ valB ((b.drop 5).take 2) * 4 then Option.none
  else some ⟨foursL (b.drop 7), valB ((b.drop 1).take 4)⟩
def getM (b : List UInt8) : Option Mn :=
  if (Zh b).2.2 = 0 ∧ (Zh b).2.1 = b.length then
    match toldM (Zh b).1 with
    | some m => if Z1 m = true then some m else Option.none
    | Option.none => Option.none
  else Option.none
theorem Zpu {m : Mn} (h : Z1 m = true) : toldM (bodyM m) = some m := by
  have hl := Zcc h
  obtain ⟨hn, hs⟩ := Zky h
  have hb := Zbr m
  have h5 : (bodyM m).drop 5 = numB m.segs.length 2 ++ numsB m.segs := by
    unfold bodyM headM
    rw [List.cons_append, List.append_assoc, List.drop_succ_cons, List.drop_left' (Zw _ 4)]
  have h1 : (bodyM m).drop 1 = numB m.next 4 ++ (numB m.segs.length 2 ++ numsB m.segs) := by
    unfold bodyM headM
    rw [List.cons_append, List.append_assoc, List.drop_succ_cons, List.drop_zero]
  have h7 : (bodyM m).drop 7 = numsB m.segs := by unfold bodyM; rw [List.drop_left' (Zef m)]
  unfold toldM
  rw [if_neg, if_neg, h7, h1, List.take_left' (Zw _ 4), fours_nums _ hs, Zk0 _ 4 hn.1 (by omega)]
  · rw [h5, List.take_left' (Zw _ 2), Zk0 _ 2 (by omega) (by omega)]
    simp only [ne_eq, Decidable.not_not]
    omega
  · simp only [not_or, Decidable.not_not, ne_eq]
    exact ⟨by omega, rfl⟩
theorem Zsu {m : Mn} (h : Z1 m = true) : getM (putM m) = some m := by
  have hg := Zdx h
  have hf := Zno (bodyM m) [] hg.1 hg.2
  rw [List.append_nil] at hf
  unfold getM
  rw [Zdy h, hf]
  dsimp only
  rw [if_pos ⟨rfl, (Zn _).symm⟩, Zpu h]
  dsimp only
  rw [if_pos h]
theorem seven {b : List UInt8} (h : 7 ≤ b.length) : ∃ a0 a1 a2 a3 a4 a5 a6 r, b = a0 :: a1 :: a2 :: a3 :: a4 :: a5 :: a6 :: r := by
  rcases b with _ | ⟨a0, _ | ⟨a1, _ | ⟨a2, _ | ⟨a3, _ | ⟨a4, _ | ⟨a5, _ | ⟨a6, r⟩⟩⟩⟩⟩⟩⟩ <;> simp only [List.length_nil, List.length_cons] at h <;> first | omega | exact ⟨_, _, _, _, _, _, _, _, rfl⟩
theorem Zpv {b : List UInt8} {m : Mn} (h : toldM b = some m) : bodyM m = b := by
  unfold toldM at h
  by_cases h1 : b.length < 7 ∨ b.getD 0 0 ≠ 8
  · rw [if_pos h1] at h; cases h
  rw [if_neg h1] at h
  by_cases h2 : ((b.length - 7 : Nat) : Int) ≠ valB ((b.drop 5).take 2) * 4
  · rw [if_pos h2] at h; cases h
  rw [if_neg h2] at h
  injection h with h
  subst h
  simp only [not_or, Decidable.not_not, ne_eq] at h1 h2
  obtain ⟨hl, h8⟩ := h1
  obtain ⟨a0, a1, a2, a3, a4, a5, a6, r, rfl⟩ := seven (by omega : 7 ≤ b.length)
  simp only [List.getD_cons_zero] at h8
  subst h8
  simp only [List.drop_succ_cons, List.drop_zero, List.take_succ_cons, List.take_zero, List.length_cons] at h2 ⊢
  have hc := J0 [a5, a6]
  obtain ⟨k, hk⟩ : ∃ k : Nat, valB [a5, a6] = (k : Int) := ⟨(valB [a5, a6]).toNat, (Int.toNat_of_nonneg hc.1).symm⟩
  obtain ⟨h3, h4⟩ := nums_fours k r (by rw [hk] at h2; omega)
  have e1 := Zcd [a1, a2, a3, a4]
  have e2 := Zcd [a5, a6]
  rw [show ([a1, a2, a3, a4] : List UInt8).length = 4 from rfl] at e1
  rw [show ([a5, a6] : List UInt8).length = 2 from rfl] at e2
  unfold bodyM headM
  dsimp only
  rw [h4, ← hk, e1, e2, h3]
  rfl
theorem Zsv {b : List UInt8} {m : Mn} (h : getM b = some m) : Z1 m = true ∧ putM m = b := by
  unfold getM at h
  by_cases h1 : (Zh b).2.2 = 0 ∧ (Zh b).2.1 = b.length
  rotate_left 1
  · rw [if_neg h1] at h; cases h
  rw [if_pos h1] at h
  cases ht : toldM (Zh b).1 with
  | none => rw [ht] at h; cases h
  | some x =>
    rw [ht] at h
    dsimp only at h
    by_cases hr : Z1 x = true
    rotate_left 1
    · rw [if_neg hr] at h; cases h
    rw [if_pos hr] at h
    injection h with h
    subst h
    refine ⟨hr, ?_⟩
    have hb := Zpv ht
    have hg := Zbt (c := b) (y := (Zh b).1) (k := (Zh b).2.1) (Prod.ext rfl (Prod.ext rfl h1.1))
    rw [h1.2, List.take_length] at hg
    unfold putM
    rw [if_pos hr, hb]
    exact hg.2.2
end Go.Proofs.YtkelafkbmnjpeaaGreat

namespace Go.Proofs.YtkelafkbmnjpeaaGreat
open Go.RowKit

theorem Zsz {m:Dk} (hd:m.down=false) (hc:m.cut≠0) (hf:m.fail≠0) (does:Dk→Dk):m.thing does=((does m.sooner).bump,0):=by
 unfold Dk.thing
 rw [if_neg (by rw [hd];decide),if_neg hc,if_neg hf]
 rfl
theorem Zs0 {m:Dk} (hd:m.down=false) (hc:m.cut≠0) (hf:m.fail=0) (does:Dk→Dk):m.thing does=({ m.sooner with fail:=-1 },81):=by
 unfold Dk.thing
 rw [if_neg (by rw [hd];decide),if_neg hc,if_pos hf]
structure LS (m:Dk) (dw:Bool) (c f:Int) (n z:Nat) (k:Dir) (p:List Ch) (dn:Int):Prop where
 down:m.down=dw
 cut:m.cut=c
 fail:m.fail=f
 names:m.names=[([97],0)]
 kept:m.kept=k
 pend:m.pend=p
 most:m.most=1048576
 used:m.used=n
 len:(m.files 0).bytes.length=n
 kp:(m.files 0).kept=z
 done:m.done=dn
section
variable {m:Dk} {c f:Int} {n z:Nat} {k:Dir} {p:List Ch} {dn:Int} {dw:Bool}
end
end Go.Proofs.YtkelafkbmnjpeaaGreat

namespace Go.Proofs.YtkelafkbmnjpeaaGreat
open Go.RowKit

def nmM:Nm:=[109]
def nmT:Nm:=[116]
def leftP (m:Dk):Dk×Int:=if (m.size nmT).2=true then m.remove nmT else (m,0)
def seqP:List (Dk→Dk×Int)→Dk→Dk×Int
 | [],m=>(m,0)
 | s :: r,m=>if (s m).2=0 then seqP r (s m).1 else s m
def Yj (b:List UInt8):List (Dk→Dk×Int):=[leftP,fun m=>m.create nmT,fun m=>m.append nmT b,fun m=>m.sync nmT,fun m=>m.rename nmT nmM,Dk.syncDir]
def saveP (m:Dk) (x:Mn):Dk×Int:=if Z1 x=true then seqP (Yj (putM x)) m else (m,1)
def loadP (m:Dk):Mn×Bool×Int :=
 if (m.read nmM 0 (m.size nmM).1).2=3 then (Mn.none,false,0)
 else if (m.read nmM 0 (m.size nmM).1).2=0 then
  match getM ((m.read nmM 0 (m.size nmM).1).1.getD []) with
  | some x=>(x,true,0)
  | none=>(Mn.none,false,22)
 else (Mn.none,false,(m.read nmM 0 (m.size nmM).1).2)
theorem DkOk.left {K:Nat} {m:Dk} (h:DkOk K m):DkOk (K+1) (leftP m).1:=by
 unfold leftP
 split
 ·exact h.remove _
 ·exact h.mono (by omega)
structure Like (m m':Dk):Prop where
 names:m'.names=m.names
 kept:m'.kept=m.kept
 pend:m'.pend=m.pend
 files:m'.files=m.files
 made:m'.made=m.made
 used:m'.used=m.used
 most:m'.most=m.most
def dirO:Option (Nat×Mn)→Dir
 | none=>[]
 | some p=>[(nmM,p.1)]
def lenO:Option (Nat×Mn)→Int
 | none=>0
 | some p=>(putM p.2).length
structure SG (wl:Bool) (m:Dk) (o:Option (Nat×Mn)) (F:Nat) (nm:Dir) (pd:List Ch) (us:Int):Prop where
 well:wl=true→Well m
 names:m.names=nm
 kept:m.kept=dirO o
 pend:m.pend=pd
 most:1048576≤m.most
 used:m.used=us
 olds:∀ p,o=some p→p.1 < F∧m.files p.1=⟨putM p.2,(putM p.2).length⟩∧Z1 p.2=true
section
variable {wl:Bool} {m:Dk} {o:Option (Nat×Mn)} {F:Nat} {us:Int} {b:List UInt8}
end

structure SS (wl:Bool) (m:Dk) (o:Option (Nat×Mn)):Prop where
 sg:SG wl m o m.made (dirO o) [] (lenO o)
 down:m.down=false
end Go.Proofs.YtkelafkbmnjpeaaGreat

namespace Go.Proofs.YtkelafkbmnjpeaaGreat
open Go.RowKit
section
variable {α:Type}
theorem Yz {enc:α→List Value} {k:Nat} (hk:∀ a,(enc a).length=k):∀ l:List α,(l.flatMap enc).length=l.length*k
 | []=>by simp
 | a :: l=>by
   rw [List.flatMap_cons,List.length_append,hk,Yz hk l,List.length_cons,Nat.add_mul]
   omega
theorem Zeu {enc:α→List Value} {k:Nat} (hk:∀ a,(enc a).length=k):∀ (l:List α) (i j:Nat) (a:α),l[i]?=some a→j < k→(l.flatMap enc)[i*k+j]?=(enc a)[j]?
 | a :: l,0,j,_,h,hj=>by
   simp only [List.getElem?_cons_zero,Option.some.injEq] at h
   subst h
   rw [List.flatMap_cons,Nat.zero_mul,Nat.zero_add,List.getElem?_append_left (by rw [hk];exact hj)]
 | a :: l,i+1,j,b,h,hj=>by
   rw [List.flatMap_cons,List.getElem?_append_right (by rw [hk,Nat.add_mul];omega),hk,show (i+1)*k+j - k=i*k+j by rw [Nat.add_mul];omega]
   exact Zeu hk l i j b (by simpa using h) hj
 | [],i,j,_,h,_=>by simp at h
structure Rw (w:World) (A:Option Addr) (n:Nat) (enc:α→List Value) (k:Nat) (l:List α):Prop where
 len:l.length=n
 spot:∀ (i:Nat) (a:α),l[i]?=some a→∃ g,A=some ⟨g,0,none⟩∧g < w.heap.size∧∀ j,j < k→w.cell? ⟨g,i*k+j,none⟩=(enc a)[j]?
theorem Rw.owned {w:World} {e:TypeId} {A:Option Addr} {n c k:Nat} {enc:α→List Value} {l:List α} (hk:∀ a,(enc a).length=k) (hl:l.length=n) (h:w.ownsRow 0 e k (.slice A n c) n (l.flatMap enc)):Rw w A n enc k l:=by
 refine ⟨hl,fun i a hi=>?_⟩
 have hil:i < l.length:=(List.getElem?_eq_some_iff.1 hi).1
 obtain ⟨g,cap,hv,_,hlt⟩:=h.form (by omega)
 injection hv with hA _ _
 subst hA
 refine ⟨g,rfl,hlt,fun j hj=>?_⟩
 have h1:=Zeu hk l i j a hi hj
 have h2:j < (enc a).length:=by rw [hk];exact hj
 rw [List.getElem?_eq_getElem h2] at h1 ⊢
 have h3:=h.cells (g:=g) rfl _ _ h1
 rw [show (⟨g,0,none⟩:Addr).add (i*k+j)=⟨g,i*k+j,none⟩ by unfold Addr.add;split <;> simp_all] at h3
 exact h3
end
end Go.Proofs.YtkelafkbmnjpeaaGreat

set_option maxHeartbeats 4000000
set_option maxRecDepth 100000
namespace Go.Proofs.YtkelafkbmnjpeaaGreat
open Go.RowKit

structure Low (w:World) (g:Nat) (A:Option Addr) (n c:Nat) (bs:List UInt8):Prop where
 bytes:Bytes w g A n bs
 cap:n≤c
 bare:A=none→c=0
theorem Low.sl {w:World} {g:Nat} {A:Option Addr} {n c:Nat} {bs:List UInt8} (h:Low w g A n c bs) (hg:g≤w.heap.size):Sl w A n c bs:=⟨h.bytes.wider hg,h.cap,h.bare⟩
theorem Low.carry {w w':World} {g:Nat} {A:Option Addr} {n c:Nat} {bs:List UInt8} (h:Low w g A n c bs) (hb:Below g w w'):Low w' g A n c bs:=⟨h.bytes.below hb,h.cap,h.bare⟩
def At (w:World) (g:Nat) (s:Src):Prop:=∃ A n c,Whole w g 251 #[.slice A n c,.bool s.2]∧Low w g A n c s.1
def Turns (g:Nat) (w w':World):Prop:=w.grownBy w' (some g)

theorem Turns.trans {g:Nat} {a b c:World} (h:Turns g a b) (k:Turns g b c):Turns g a c:=World.grownBy.trans h k
theorem Turns.below {g:Nat} {w w':World} (h:Turns g w w') (hg:g≤w.heap.size):Below g w w':=(Below.refl _ w).grown h hg (fun k hk=>by injection hk with hk;omega)

theorem Turns.set {g:Nat} {w:World} (i:Nat) (u:Value):Turns g w (w.setCell ⟨g,i,none⟩ u) :=
 ⟨rfl,rfl,rfl,by simp,fun k _ hne=>heap_setCell_other w _ k u (fun e=>hne (by rw [e]))⟩
theorem Turns.grow {g:Nat} {w w':World} (h:Grows w w'):Turns g w w':=⟨h.os,h.tape,h.output,h.size,fun k hk _=>h.block k hk⟩
theorem Low.nil (w:World) (g:Nat):Low w g none 0 0 []:=⟨Bytes.nil _ _ _,Nat.le_refl _,fun _=>rfl⟩
theorem Low.first {w:World} {g:Nat} {A:Option Addr} {n c:Nat} {bs:List UInt8} (h:Low w g A n c bs) {k:Nat} (hk:k≤n):Low w g A k c (bs.take k):=⟨h.bytes.first hk,Nat.le_trans hk h.cap,h.bare⟩
theorem Low.behind {w:World} {g:Nat} {A:Option Addr} {n c:Nat} {bs:List UInt8} (h:Low w g A n c bs) {k:Nat} (hk:k≤n):Low w g (if c=k then A else A.map (·.add k)) (n - k) (c - k) (bs.drop k):=by
 refine ⟨?_,by have:=h.cap;omega,fun e=>?_⟩
 ·have h2:=Row.behind (k:=k) (cap:=c) h.bytes hk h.cap
  unfold Bytes
  rw [List.map_drop]
  exact h2
 ·split at e
  ·omega
  ·have:A=none:=by simpa using e
   have:=h.bare this
   omega
theorem Zdz {w:World} {g:Nat} {A:Option Addr} {n c:Nat} {bs:List UInt8} (h:Low w g A n c bs) (i:Nat) (u:Value):Low (w.setCell ⟨g,i,none⟩ u) g A n c bs:=h.carry (Below.setCell (p:=⟨g,i,none⟩) (Below.refl g w) (Nat.le_refl g) u)

theorem Zia (g:Nat) (s:Src) (n:Nat) (w:World) (h:At w g s) (hn:n≤9223372036854775807) (hs:s.1.length≤140737488351232) :
 Calls Tryz.prog 309 #[.pointer (some ⟨g,0,none⟩),.int .i64 (n:Int)] w fun e w'=>∃ A m c,e=.returned (.slice A m c)∧Low w' g A m c (takeS s n).1∧At w' g (takeS s n).2∧Turns g w w':=by
 obtain ⟨A,m,c,hw,hl⟩:=h
 obtain ⟨bs,short⟩:=s
 have c0:=hw.cell 0
 have c1:=hw.cell 1
 have f0:=hw.free 0
 have f1:=hw.free 1
 simp only [Gt] at c0 c1
 have hlen:=Bytes.len hl.bytes
 dsimp only at hlen hl hs c1
 have hcap:=hl.cap
 have HL:=Lib.hid hl
 have HW:=Lib.hid hw
 clear hw hl
 cases short with
 | true =>
   go_enter Tryz.func309,Tryz.ntmps309
   go_wp2_with (fail)
   go_ret
   exact ⟨none,0,0,rfl,Low.nil _ _,⟨A,m,c,HW.out.put 1 (.bool true),Zdz HL.out _ _⟩,Turns.set _ _⟩
 | false =>
   by_cases hlt:m < n
   ·have h1:(m:Int) < (n:Int):=by omega
    go_enter Tryz.func309,Tryz.ntmps309
    go_wp2_with (fail)
    go_ret
    have ht:takeS (bs,false) (n:Int)=([],(bs,true)):=by
     unfold takeS
     rw [if_pos (.inr (by dsimp only;omega))]
    rw [ht]
    exact ⟨none,0,0,rfl,Low.nil _ _,⟨A,m,c,HW.out.put 1 (.bool true),Zdz HL.out _ _⟩,Turns.set _ _⟩
   ·have h1:¬ (m:Int) < (n:Int):=by omega
    have ht:takeS (bs,false) (n:Int)=(bs.take n,(bs.drop n,false)):=by
     unfold takeS
     rw [if_neg (by dsimp only;rintro (h | h) <;> first | cases h | omega),Int.toNat_natCast]
    rw [ht]
    have hbh:=HL.out.behind (k:=n) (by omega)
    have hfi:=HL.out.first (k:=n) (by omega)
    have HF:=Lib.hid hfi
    clear hfi ht
    by_cases hc:c=n
    ·rw [if_pos hc] at hbh
     obtain rfl:c=n:=hc
     rw [Nat.sub_self,show m - c=0 by omega] at hbh
     have HB:=Lib.hid hbh
     clear hbh
     go_enter Tryz.func309,Tryz.ntmps309
     go_wp2_with (fail)
     go_ret
     exact ⟨A,c,c,rfl,Zdz HF.out _ _,⟨_,_,_,HW.out.put 0 _,Zdz HB.out _ _⟩,Turns.set _ _⟩
    ·rw [if_neg hc] at hbh
     have HB:=Lib.hid hbh
     have hc':¬ (c:Int)=(n:Int):=by omega
     clear hbh
     go_enter Tryz.func309,Tryz.ntmps309
     go_wp2_with (fail)
     go_ret
     exact ⟨A,n,c,rfl,Zdz HF.out _ _,⟨_,_,_,HW.out.put 0 _,Zdz HB.out _ _⟩,Turns.set _ _⟩
end Go.Proofs.YtkelafkbmnjpeaaGreat

set_option maxHeartbeats 4000000
set_option maxRecDepth 100000
namespace Go.Proofs.YtkelafkbmnjpeaaGreat
open Go.RowKit

theorem Zfo (bs:List UInt8) (j:Nat) (h:j < bs.length):valB (bs.take (j+1))=256*valB (bs.take j)+((bs.getD j 0).toNat:Int):=by
 rw [List.take_succ_eq_append_getElem h,Zpw]
 simp [h]
theorem Zns (a b:Nat) (ha:a < 9223372036854775808) (hb:b < 9223372036854775808):bits .or .i64 (a:Int) (b:Int)=((a ||| b:Nat):Int):=by
 have hx:a ||| b < 2 ^ 63:=Nat.or_lt_two_pow (by omega) (by omega)
 show IntKind.i64.wrap ((BitVec.ofInt 64 (a:Int) ||| BitVec.ofInt 64 (b:Int)).toNat:Int)=_
 rw [BitVec.toNat_or,ofInt_u64 a (by omega),ofInt_u64 b (by omega),IntKind.wrap_i64]
 omega
theorem Zk2 (v:Int) (b:Nat) (h0:0≤v) (h1:v < 1099511627776) (hb:b < 256):bits BinOp.or IntKind.i64 (v*256) (b:Int)=v*256+(b:Int):=by
 obtain ⟨n,rfl⟩:∃ n:Nat,v=(n:Int):=⟨v.toNat,by omega⟩
 have e:=Zns (n*256) b (by omega) (by omega)
 have e2:(n*256 ||| b)=n*256+b:=by
  have:=Nat.two_pow_add_eq_or_of_lt (i:=8) (b:=b) (by omega) n
  rw [show (2:Nat) ^ 8*n=n*256 by omega] at this
  omega
 rw [e2] at e
 rw [show (n:Int)*256=((n*256:Nat):Int) by omega,e]
 omega
theorem Y5 (bs:List UInt8) (h:bs.length≤6):0≤valB bs∧valB bs < 281474976710656:=by
 have:=J0 bs
 obtain e | e | e | e | e | e | e:bs.length=0∨bs.length=1∨bs.length=2∨bs.length=3∨bs.length=4∨bs.length=5∨bs.length=6:=by omega
 all_goals
  rw [e] at this
  simp at this
  omega

theorem Za2 (g:Nat) (s:Src) (k:Nat) (w:World) (h:At w g s) (hk:k≤6) (hs:s.1.length≤140737488351232) :
 Calls Tryz.prog 275 #[.pointer (some ⟨g,0,none⟩),.int .i64 (k:Int)] w fun e w'=>e=.returned (.int .i64 (numS s k).1)∧At w' g (numS s k).2∧Turns g w w':=by
 have hlk:(takeS s k).1.length≤6:=by
  unfold takeS
  split
  ·simp
  ·simp;omega
 unfold numS
 dsimp only
 have HT:=Lib.hid (Zia g s k w h (by omega) hs)
 generalize takeS s k=r at *
 obtain ⟨bs,s'⟩:=r
 dsimp only at *
 go_enter Tryz.func275,Tryz.ntmps275
 go_wp2_with (fail)
 refine HT.out.mono ?_
 rintro e w1 ⟨A,m,c,rfl,hl,ha,ht⟩
 have hlen:=Bytes.len hl.bytes
 have HL:=Lib.hid hl
 have HA:=Lib.hid (And.intro ha ht)
 clear hl ha ht HT h
 go_wp2_with (fail)
 go_loop [5,12] (fun n i=>∃ j:Nat,j≤m∧i=.int .i64 (j:Nat)∧n=.int .i64 (valB (bs.take j))) (fun _ i=>m - (intOf i).toNat)
 case atStart=>exact ⟨0,by omega,rfl,rfl⟩
 case round =>
  obtain ⟨j,hj,rfl,rfl⟩:=hrel
  by_cases hlt:j < m
  ·obtain ⟨ad,rfl,_,hc⟩:=HL.out.bytes.spot hlt
   have hnx:=Zfo bs j (by omega)
   have hsm:=Y5 (bs.take j) (by rw [List.length_take];omega)
   have hsm2:=Y5 (bs.take (j+1)) (by rw [List.length_take];omega)
   have hb:=(bs.getD j 0).toNat_lt
   generalize bs.getD j 0=b at *
   generalize valB (bs.take j)=v at *
   have HX:=Lib.hid hnx
   have k0:(0:Int)≤(j:Int):=by omega
   have k1:(j:Int) < (m:Int):=by omega
   clear hnx
   go_wp2_with (fail)
   go_round
   case rel=>exact ⟨j+1,by omega,by go_num,by rw [HX.out,Zk2 v _ (by omega) (by have:=hsm2;rw [HX.out] at this;omega) hb];congr 1;omega⟩
   case measure=>simp [intOf];omega
  ·obtain rfl:j=m:=by omega
   have e1:bs.take j=bs:=List.take_of_length_le (by omega)
   rw [e1]
   go_wp2_with (fail)
   go_ret
   exact ⟨rfl,HA.out⟩
end Go.Proofs.YtkelafkbmnjpeaaGreat

namespace Go.Proofs.YtkelafkbmnjpeaaGreat
open Go.RowKit

def IsSl (t:TypeId):Prop:=Tryz.prog.underlying t=some (.slice 5)
theorem Zfp {t u:TypeId} (ht:IsSl t) (hu:IsSl u) (ty:TypeId) (A:Option Addr) (n c:Nat) (x:Value) (w:World):(Builtin.append_ #[t,u] ty #[.slice A n c,x]).run Tryz.prog w=(Builtin.append_ #[37,37] ty #[.slice A n c,x]).run Tryz.prog w:=by
 have h1:IsSl 37:=Tryz.underlying37
 unfold IsSl at *
 unfold Builtin.append_
 simp [run_underlying ht,run_underlying hu,run_underlying h1]

def Stay (w w':World):Prop:=∀ (g t:Nat) (cs:Array Value),t≠5→Whole w g t cs→Whole w' g t cs
theorem Stay.refl (w:World):Stay w w:=fun _ _ _ _ h=>h
theorem Stay.trans {a b c:World} (h:Stay a b) (k:Stay b c):Stay a c:=fun g t cs ht hw=>k g t cs ht (h g t cs ht hw)
theorem Stay.grow {w w':World} (h:Grows w w'):Stay w w':=fun _ _ _ _ hw=>h.whole hw
theorem Stay.grown {w w':World} {base:Nat} {v:Value} {n:Nat} {xs:List Value} (ho:w.ownsRow base 5 1 v n xs) (hg:w.grownBy w' v.ownBlock):Stay w w':=fun g t cs ht hw=>by
 unfold Whole
 rw [hg.block g hw.lt (fun e=>?_)]
 ·exact hw
 ·rcases ho.2 with ⟨rfl,_⟩ | ⟨g',cap,cur,rfl,_,hh,_⟩
  ·simp [Value.ownBlock] at e
  ·obtain rfl:g=g':=by simpa [Value.ownBlock] using e
   unfold Whole at hw
   rw [hw] at hh
   injection hh with hh
   injection hh with _ h2 _
   exact ht h2

theorem Zdc {w:World} {ty base:Nat} {A0:Option Addr} {n c0:Nat} {xs:List UInt8} (hown:w.ownsRow base 5 1 (.slice A0 n c0) n (xs.map byteV))
 {A:Option Addr} {m c:Nat} {ys:List UInt8} (hr:Sl w A m c ys) (hk2:n+m≤140737488351232) (hbase:base≤w.heap.size) :
 ∃ A' c' w',(Builtin.append_ #[37,37] ty #[.slice A0 n c0,.slice A m c]).run Tryz.prog w=.ok (.slice A' (n+m) c') w'∧w'.ownsRow base 5 1 (.slice A' (n+m) c') (n+m) ((xs++ys).map byteV)∧Below base w w'∧Stay w w':=by
 obtain ⟨i0,hi,hz0,hz1,hz2⟩:=info_parts infoU8
 obtain ⟨v',w',hrun,h2,h3,_⟩:=Y9 (P:=Tryz.prog) (ty:=ty) Tryz.underlying37 hi hz0 hz1 hz2 rfl hown hr.bytes hr.bare (Y2 ys) (by unfold maxLen;omega) (by omega) hbase
 obtain ⟨A',c',rfl,_⟩:=Zl h2
 rw [←List.map_append] at h2
 exact ⟨A',c',w',hrun,h2,(Below.refl _ w).grown h3 hbase (fun g hg=>(hown.lt g hg).1),Stay.grown hown h3⟩
theorem Zqa (ks:List UInt8):Lib.strCells ⟨ks.toArray⟩=ks.map byteV:=by
 simp only [Lib.strCells]
 rfl
theorem Zgm {w:World} {ty base:Nat} {A0:Option Addr} {n c0:Nat} {xs:List UInt8} (hown:w.ownsRow base 5 1 (.slice A0 n c0) n (xs.map byteV))
 (ks:List UInt8) (hk2:n+ks.length≤140737488351232) (hbase:base≤w.heap.size) :
 ∃ A' c' w',(Builtin.append_ #[37,9] ty #[.slice A0 n c0,.string ⟨ks.toArray⟩]).run Tryz.prog w=.ok (.slice A' (n+ks.length) c') w'∧w'.ownsRow base 5 1 (.slice A' (n+ks.length) c') (n+ks.length) ((xs++ks).map byteV)∧Below base w w'∧Stay w w':=by
 obtain ⟨i0,hi,hz0,hz1,hz2⟩:=info_parts infoU8
 have hs:(⟨ks.toArray⟩:ByteArray).size=ks.length:=by simp [ByteArray.size]
 obtain ⟨v',w',hrun,h2,h3,_⟩:=Lib.run_append_own_string (P:=Tryz.prog) (w:=w) base 37 9 ty 5 i0 Tryz.underlying37 Tryz.underlying9 hi hz0 hz1 hz2 _ n _ hown ⟨ks.toArray⟩ (by rw [hs];unfold maxLen;omega) (by rw [hs];omega) hbase
 rw [hs,Zqa,←List.map_append] at h2
 obtain ⟨A',c',rfl,_⟩:=Zl h2
 exact ⟨A',c',w',hrun,h2,(Below.refl _ w).grown h3 hbase (fun g hg=>(hown.lt g hg).1),Stay.grown hown h3⟩

theorem Zfq {t:TypeId} (ht:IsSl t) (ty:TypeId) (A:Option Addr) (n c:Nat) (x:Value) (w:World):(Builtin.append_ #[t,9] ty #[.slice A n c,x]).run Tryz.prog w=(Builtin.append_ #[37,9] ty #[.slice A n c,x]).run Tryz.prog w:=by
 have h1:IsSl 37:=Tryz.underlying37
 unfold IsSl at *
 unfold Builtin.append_
 simp [run_underlying ht,run_underlying h1]

theorem isSl_made:IsSl 197:=Tryz.underlying197
theorem isSl_bytes:IsSl 37:=Tryz.underlying37

section
variable {ops:Array Oper} {rest:List Oper} {o:Oper} {a:Act} {w:World} {Q:Exit→Act→World→Prop} {K:Act→World→Prop} {E:Prop}
theorem Za3 {t u:TypeId} (ht:IsSl t) (hu:IsSl u) (hgd:o.guard=none) (s x:Operand) (ho:o.op=.call { callee:=.builtin .append,args:=#[s,x],argTypes:=#[t,u] })
 {base:Nat} {A0:Option Addr} {n c0:Nat} {xs:List UInt8} (hs:a.eval s=.slice A0 n c0) (hown:w.ownsRow base 5 1 (.slice A0 n c0) n (xs.map byteV))
 {A:Option Addr} {m c:Nat} {ys:List UInt8} (hx:a.eval x=.slice A m c) (hr:Sl w A m c ys) (k:Nat) (hk:n+m=k) (hk2:k≤140737488351232) (hbase:base≤w.heap.size)
 (h:∀ A' c' w',w'.ownsRow base 5 1 (.slice A' k c') k ((xs++ys).map byteV)→Below base w w'→Stay w w'→wpList Tryz.prog ops Q rest (a.put o.dst (.slice A' k c')) w'):wpList Tryz.prog ops Q (o :: rest) a w:=by
 subst hk
 refine wpList_plain hgd fun K hK=>?_
 obtain ⟨A',c',w',hrun,h2,h3,h4⟩:=Zdc (ty:=o.type) hown hr hk2 hbase
 rw [←Zfp ht hu] at hrun
 unfold Oper.wp execOp
 simp only [ho,resolve,invoke,builtin,Sem.run_bind,Sem.run_pure,Result.andThen_ok,List.map_toArray,List.map_cons,List.map_nil,hs,hx,hrun]
 exact hK _ _ (h A' c' w' h2 h3 h4)
theorem Zbw {t:TypeId} (ht:IsSl t) (hgd:o.guard=none) (s x:Operand) (ho:o.op=.call { callee:=.builtin .append,args:=#[s,x],argTypes:=#[t,9] })
 {base:Nat} {A0:Option Addr} {n c0:Nat} {xs:List UInt8} (hs:a.eval s=.slice A0 n c0) (hown:w.ownsRow base 5 1 (.slice A0 n c0) n (xs.map byteV))
 {ks:List UInt8} (hx:a.eval x=.string ⟨ks.toArray⟩) (k:Nat) (hk:n+ks.length=k) (hk2:k≤140737488351232) (hbase:base≤w.heap.size)
 (h:∀ A' c' w',w'.ownsRow base 5 1 (.slice A' k c') k ((xs++ks).map byteV)→Below base w w'→Stay w w'→wpList Tryz.prog ops Q rest (a.put o.dst (.slice A' k c')) w'):wpList Tryz.prog ops Q (o :: rest) a w:=by
 subst hk
 refine wpList_plain hgd fun K hK=>?_
 obtain ⟨A',c',w',hrun,h2,h3,h4⟩:=Zgm (ty:=o.type) hown ks hk2 hbase
 rw [←Zfq ht] at hrun
 unfold Oper.wp execOp
 simp only [ho,resolve,invoke,builtin,Sem.run_bind,Sem.run_pure,Result.andThen_ok,List.map_toArray,List.map_cons,List.map_nil,hs,hx,hrun]
 exact hK _ _ (h A' c' w' h2 h3 h4)
theorem Zs2 {t u:TypeId} (ht:IsSl t) (hu:IsSl u) (hgd:o.guard=none) (s x:Operand) (ho:o.op=.call { callee:=.builtin .append,args:=#[s,x],argTypes:=#[t,u] })
 {base:Nat} {A0:Option Addr} {n c0:Nat} {xs:List UInt8} (hs:a.eval s=.slice A0 n c0) (hown:w.ownsRow base 5 1 (.slice A0 n c0) n (xs.map byteV))
 {A:Option Addr} {m c:Nat} {ys:List UInt8} (hx:a.eval x=.slice A m c) (hr:Sl w A m c ys) (k:Nat) (hk:n+m=k) (hk2:k≤140737488351232) (hbase:base≤w.heap.size)
 (h:∀ A' c' w',w'.ownsRow base 5 1 (.slice A' k c') k ((xs++ys).map byteV)→Below base w w'→Stay w w'→K (a.put o.dst (.slice A' k c')) w'):if Region.wanted o (yielded ops a.tmps)=true then Oper.wp Tryz.prog o a w K Q else E:=by
 subst hk
 have hw:Region.wanted o (yielded ops a.tmps)=true:=by simp [Region.wanted,hgd]
 rw [if_pos hw]
 obtain ⟨A',c',w',hrun,h2,h3,h4⟩:=Zdc (ty:=o.type) hown hr hk2 hbase
 rw [←Zfp ht hu] at hrun
 unfold Oper.wp execOp
 simp only [ho,resolve,invoke,builtin,Sem.run_bind,Sem.run_pure,Result.andThen_ok,List.map_toArray,List.map_cons,List.map_nil,hs,hx,hrun]
 exact h A' c' w' h2 h3 h4
end
end Go.Proofs.YtkelafkbmnjpeaaGreat
