/-
  Texts that the statements lean on, one behind the other.
-/
import Derived.Test.YtkelafkbmnjpeaaGreatMG23
import Derived.Test.YtkelafkbmnjpeaaGreatSgAll
import Derived.Test.YtkelafkbmnjpeaaGreatMG21
import Derived.Test.YtkelafkbmnjpeaaGreatMG22
import Derived.Test.YtkelafkbmnjpeaaGreatMG08
import Derived.Test.YtkelafkbmnjpeaaGreatMG09
import Derived.Test.YtkelafkbmnjpeaaGreatMG10
import Derived.Deep.SlicePairs
import Derived.Test.YtkelafkbmnjpeaaGreatMG03
import Derived.Test.YtkelafkbmnjpeaaGreatMG01
import Derived.Test.YtkelafkbmnjpeaaGreatMG04
import Derived.Sort.OwnSortedInts
import Derived.Lib.OwnBridge
import Derived.KernelRfl
import Derived.Test.YtkelafkbmnjpeaaGreatMG19
import Derived.Lib.OthersKept
set_option linter.unusedSimpArgs false
set_option linter.unusedVariables false
namespace Go.Proofs.YtkelafkbmnjpeaaGreat
open Go.RowKit
def nmH (n:Int):Nm:=ofP 2 n
structure Lg where
 dk:Dk
 limit:Int
 man:Mn
 last:Int
def Lg.on (L:Lg) (m:Dk):Lg:={ L with dk:=m }
def Lg.has (L:Lg) (n:Int):Bool:=decide (n∈L.man.segs)
def Z5 (L:Lg):Lg×Int:=if L.last=-1 then (L,0) else (L.on (L.dk.sync (nmS L.last)).1,(L.dk.sync (nmS L.last)).2)
def nextO (l:List Int) (a:Int):Int:=l.foldl (fun a x=>max a (x+1)) a
def lnumP (L:Lg):Int:=nextO (numsP (L.dk.names.map (·.1))) L.man.next
def fd0 (f:Fn):Fd:=⟨f.1,f.2.1,f.2.2.kind,f.2.2.key,f.2.2.id,f.2.2.no,f.2.2.size,(none,0,0),(none,0,0)⟩
def Zar (l:List Fn):List Ht:=hofP (l.map fd0)
def hintB (m:Dk) (n:Int):List UInt8:=putH (Zar (Yv m n).1) (m.size (nmS n)).1
def Zhm (n:Int):List (Dk→Dk×Int):=[fun m=>m.create (nmH n),fun m=>m.append (nmH n) (hintB m n),fun m=>m.sync (nmH n)]
def Zeo (m:Dk) (n:Int):Dk:=(seqP (Zhm n) m).1
def Z6 (L:Lg) (segs:List Int):Lg×Int :=
 if (saveP L.dk ⟨segs,L.man.next⟩).2=0 then ({ L.on (saveP L.dk ⟨segs,L.man.next⟩).1 with man:=⟨segs,L.man.next⟩ },0) else (L.on (saveP L.dk ⟨segs,L.man.next⟩).1,(saveP L.dk ⟨segs,L.man.next⟩).2)
def Lg.next (L:Lg) (x:Int):Lg:={ L with man:=⟨L.man.segs,x⟩ }
def rollC (L:Lg) (n:Int):Lg:={ (if L.last=-1 then L else L.on (Zeo L.dk L.last)) with last:=n }
def rollB (L:Lg) (n:Int):Lg×Int:=if (Z6 L (L.man.segs++[n])).2=0 then (rollC (Z6 L (L.man.segs++[n])).1 n,0) else Z6 L (L.man.segs++[n])
def rollA (L:Lg) (n:Int):Lg×Int:=if (makeP L.dk n).2=0 then rollB (L.on (makeP L.dk n).1) n else (L.on (makeP L.dk n).1,(makeP L.dk n).2)
def rollP (L:Lg):Lg×Int :=
 if (Z5 L).2=0 then
  (if 99999999≤lnumP (Z5 L).1∨1000≤L.man.segs.length then ((Z5 L).1,5) else rollA ((Z5 L).1.next (lnumP (Z5 L).1+1)) (lnumP (Z5 L).1))
 else Z5 L
def fitsP (L:Lg) (n:Int):Bool:=!decide (L.last=-1)&&(decide ((L.dk.size (nmS L.last)).1≤13) || decide ((L.dk.size (nmS L.last)).1+n≤L.limit))
def addLP (L:Lg) (r:Rc):Lg×(Int×Int×Int×Int) :=
 if (addP L.dk L.last r).2.2.2=0 then (L.on (addP L.dk L.last r).1,(L.last,(addP L.dk L.last r).2.1,(addP L.dk L.last r).2.2.1,0)) else (L.on (addP L.dk L.last r).1,(0,0,0,(addP L.dk L.last r).2.2.2))
def laddP (L:Lg) (r:Rc):Lg×(Int×Int×Int×Int) :=
 if Zq r then
  (if fitsP L (frS r).length=true then addLP L r
   else if (rollP L).2=0 then addLP (rollP L).1 r else ((rollP L).1,(0,0,0,(rollP L).2)))
 else (L,(0,0,0,1))
def lgetP (L:Lg) (n x:Int):Rc×Int:=if L.has n=true then getP L.dk n x else (Rc.none,3)
def Zep (L:Lg) (n:Int):Option (List Ht) :=
 if L.has n=true then
  (if (L.dk.read (nmH n) 0 (L.dk.size (nmH n)).1).2=0 then getH ((L.dk.read (nmH n) 0 (L.dk.size (nmH n)).1).1.getD []) (L.dk.size (nmS n)).1 else none)
 else none
def Z7 (l:List Nm) (m:Dk):Dk:=l.foldl (fun m n=>(m.remove n).1) m
def goneN (l:List Int):List Nm:=l.flatMap fun n=>[nmS n,nmH n]
def Zcl (L:Lg) (ds:List Int):Bool:=ds.all fun n=>L.has n&&!decide (n=L.last)
def Yl (ds segs:List Int):List Int:=segs.filter fun n=>!decide (n∈ds)
def goesL (ds segs:List Int):List Int:=segs.filter fun n=>decide (n∈ds)
def dropP (L:Lg) (ds:List Int):Lg×Int :=
 if Zcl L ds=true then
  (if (Z6 L (Yl ds L.man.segs)).2=0 then ((Z6 L (Yl ds L.man.segs)).1.on (Z7 (goneN (goesL ds L.man.segs)) (Z6 L (Yl ds L.man.segs)).1.dk),0) else Z6 L (Yl ds L.man.segs))
 else (L,1)
def Yd (L:Lg) (n:Nm):Bool:=match parseP n with
 | some (k,x)=>decide (k=4) || (decide (k=1∨k=2)&&!L.has x)
 | none=>false
def Zeq (L:Lg):Lg:=L.on (Z7 ((L.dk.names.map (·.1)).filter (Yd L)) L.dk)
def openP (m:Dk) (limit:Int):Option Lg×Int :=
 if limit < 64∨1073741824 < limit then (none,1)
 else if (loadP m).2.2=0 then (some ⟨m,limit,if (loadP m).2.1=true then (loadP m).1 else ⟨[],1⟩,-1⟩,0) else (none,(loadP m).2.2)
/-! How long hints are. -/
theorem items_sum:∀ (N:Nat) (bs:List UInt8) (a:Nat),bs.length≤N→((allB bs a).1.map fun t:It=>t.2.2.length+8).sum≤bs.length
 | 0,bs,a,hN=>by
   have hb:bs=[]:=List.eq_nil_of_length_eq_zero (by omega)
   subst hb
   rw [Zad]
   simp
 | N+1,bs,a,hN=>by
   by_cases hb:bs=[]
   ·subst hb
    rw [Zad]
    simp
   obtain ⟨⟨y,k,e⟩,h⟩:∃ r,Zi bs=r:=⟨_,rfl⟩
   obtain ⟨hk,hk0,_⟩:=Yq h
   have hpos:0 < bs.length:=List.length_pos_iff.2 hb
   by_cases he:e=0
   ·subst he
    obtain ⟨h9,hkl,hy⟩:=Zc1 h
    have hgy:Good y:=by
     refine Classical.byContradiction fun hn=>?_
     rw [Zeb hn] at hy
     have:=congrArg List.length hy
     rw [List.length_take,List.length_nil] at this
     omega
    have hky:k=y.length+8:=by
     rw [Ye hgy] at hy
     have:=congrArg List.length hy
     rw [Zl,List.length_take] at this
     omega
    rw [Zc2 hb h,List.map_cons,List.sum_cons]
    have:=items_sum N (bs.drop k) (a+k) (by rw [List.length_drop];omega)
    rw [List.length_drop] at this
    dsimp only
    omega
   ·by_cases hz:k=0
    ·subst hz
     rw [Zbs hb h he]
     simp
    ·rw [Zc3 hb h he hz]
     have:=items_sum N (bs.drop k) (a+k) (by rw [List.length_drop];omega)
     rw [List.length_drop] at this
     dsimp only
     omega
def hlen (h:Ht):Nat:=15+h.key.length
theorem Zlx (x:Ht):∀ l:List Ht,((hins x l).map hlen).sum=hlen x+(l.map hlen).sum
 | []=>by simp [hins]
 | y :: r=>by
   unfold hins
   split
   ·simp
   ·rw [List.map_cons,List.sum_cons,Zlx x r,List.map_cons,List.sum_cons];omega
theorem Zge (p:Ht→Bool):∀ l:List Ht,((l.filter p).map hlen).sum≤(l.map hlen).sum
 | []=>Nat.le_refl _
 | y :: r=>by
   have:=Zge p r
   rw [List.filter_cons]
   split
   ·simp only [List.map_cons,List.sum_cons];omega
   ·simp only [List.map_cons,List.sum_cons];omega
def flen (f:Fn):Nat:=if toldF (fd0 f)=true then 15+f.2.2.key.length else 0
theorem Zoq (l:List Fn):((Zar l).map hlen).sum≤(l.map flen).sum:=by
 unfold Zar
 refine Zfn (p:=fun l:List Fn=>((hofP (l.map fd0)).map hlen).sum≤(l.map flen).sum) (Nat.le_refl _) (fun l f h=>?_) l
 rw [List.map_append,List.map_append,List.map_cons,List.map_nil,List.map_cons,List.map_nil,Zeh,List.sum_append,List.sum_singleton]
 unfold flen
 split
 ·unfold hput
  rw [Zlx]
  have:=Zge (fun p=>!(p.key==(Zbe (fd0 f)).key)) (hofP (l.map fd0))
  have e:hlen (Zbe (fd0 f))=15+f.2.2.key.length:=rfl
  unfold hdel
  unfold flen at h
  omega
 ·unfold flen at h
  omega
theorem Zuc {bs:List UInt8} {r:Rc} (h:getR bs=some r) (hk:J5 r.kind=true):r.key.length+1≤bs.length:=by
 obtain ⟨hr,hp⟩:=Zuz h
 rw [←hp]
 unfold putR
 rw [if_pos hr,List.length_cons]
 unfold J5 at hk
 simp only [Bool.and_eq_true,decide_eq_true_eq] at hk
 unfold bodyR keyP
 rw [if_neg (by omega)]
 split
 ·simp only [List.cons_append,List.length_cons,List.length_append];omega
 ·split
  ·simp only [List.cons_append,List.length_cons,List.length_append];omega
  ·omega
theorem fns_sum:∀ ts:List It,((fnsP ts).map flen).sum≤2*(ts.map fun t:It=>t.2.2.length+8).sum
 | []=>Nat.le_refl _
 | t :: ts=>by
   have ih:=fns_sum ts
   unfold fnsP at ih ⊢
   rw [List.filter_cons]
   split
   ·rename_i hs
    rw [List.map_cons,List.map_cons,List.sum_cons,List.map_cons,List.sum_cons]
    have:flen (t.1,t.2.1,rcOf t.2.2)≤2*(t.2.2.length+8):=by
     unfold flen
     split
     ·rename_i ht
      obtain ⟨r,hr⟩:=Option.isSome_iff_exists.1 hs
      have he:rcOf t.2.2=r:=by unfold rcOf;rw [hr];rfl
      have hk:J5 r.kind=true:=by
       unfold toldF at ht
       rw [Bool.and_eq_true] at ht
       have:=ht.1
       show J5 r.kind=true
       rw [←he]
       exact this
      have:=Zuc hr hk
      rw [he]
      show 15+r.key.length≤_
      omega
     ·omega
    omega
   ·rw [List.map_cons,List.sum_cons]
    omega
theorem Zly (ts:List It):((ts.drop 1).map fun t:It=>t.2.2.length+8).sum≤(ts.map fun t:It=>t.2.2.length+8).sum:=by
 cases ts with
 | nil=>exact Nat.le_refl _
 | cons t ts=>rw [List.drop_succ_cons,List.drop_zero,List.map_cons,List.sum_cons];omega
theorem Zi0 {m:Dk} {n:Nm} {b:List UInt8} {e:Int} {x k:Int} (h:m.read n x k=(some b,e)):(b.length:Int)≤(m.size n).1:=by
 unfold Dk.read at h
 split at h
 ·cases h
 ·cases hf:Dir.find n m.names with
  | none=>rw [hf] at h;cases h
  | some f =>
    rw [hf] at h
    dsimp only at h
    split at h
    ·cases h
    ·injection h with h1 h2
     injection h1 with h1
     rw [Zbp hf,←h1]
     show ((((m.files f).bytes.drop x.toNat).take k.toNat).length:Int)≤((m.files f).bytes.length:Int)
     rw [List.length_take,List.length_drop]
     omega
theorem Zor (m:Dk) (n:Int):(((Yv m n).1.map flen).sum:Int)≤2*(m.size (nmS n)).1:=by
 have h0:0≤(m.size (nmS n)).1:=by
  unfold Dk.size
  cases Dir.find (nmS n) m.names with
  | none=>exact Int.le_refl _
  | some f=>exact Int.natCast_nonneg _
 unfold Yv
 split
 ·split
  ·obtain ⟨⟨rb,re⟩,hr⟩:∃ q,m.read (nmS n) 0 (m.size (nmS n)).1=q:=⟨_,rfl⟩
   rw [hr]
   dsimp only
   have h1:=fns_sum ((allB (rb.getD []) 0).1.drop 1)
   have h2:=Zly (allB (rb.getD []) 0).1
   have h3:=items_sum _ (rb.getD []) 0 (Nat.le_refl _)
   have h4:((rb.getD []).length:Int)≤(m.size (nmS n)).1:=by
    cases rb with
    | none=>exact h0
    | some b=>exact Zi0 hr
   omega
  ·show (0:Int)≤_
   omega
 ·show (0:Int)≤_
  omega
theorem Zi1 (m:Dk) (n:Int):((hintB m n).length:Int)≤2*(m.size (nmS n)).1+21:=by
 have h0:=Zor m n
 have h1:=Zoq (Yv m n).1
 have h2:0≤(m.size (nmS n)).1:=by
  unfold Dk.size
  cases Dir.find (nmS n) m.names with
  | none=>exact Int.le_refl _
  | some f=>exact Int.natCast_nonneg _
 unfold hintB
 by_cases hr:Zai (Zar (Yv m n).1)=true∧okS (m.size (nmS n)).1=true
 ·rw [Zk6 hr.1 hr.2]
  have e:((Zar (Yv m n).1).map fun h=>15+h.key.length)=(Zar (Yv m n).1).map hlen:=rfl
  rw [e]
  omega
 ·rw [Zdd (by
   by_cases h3:Zai (Zar (Yv m n).1)=true
   ·exact .inr (by cases h4:okS (m.size (nmS n)).1 with | false=>rfl | true=>exact absurd ⟨h3,h4⟩ hr)
   ·exact .inl (by cases h4:Zai (Zar (Yv m n).1) with | false=>rfl | true=>exact absurd h4 h3))]
  show (0:Int)≤_
  omega
/-! No file grows too great. -/
section
variable {T S:Nat} {m:Dk} {L:Lg}
theorem isS_S (n:Int):isS (nmS n)=!(nmS n).isEmpty:=by
 unfold nmS ofP
 split
 ·rfl
 ·rw [if_pos rfl];rfl
theorem isS_H (n:Int):isS (nmH n)=false:=by
 unfold nmH ofP
 split
 ·rfl
 ·rw [if_neg (by decide),if_pos rfl];rfl
theorem LB.size {P:Nat→Prop} (h:LB T S P m) (n:Int):(m.size (nmS n)).1≤S∨nmS n=[]:=by
 by_cases he:nmS n=[]
 ·exact .inr he
 refine .inl ?_
 cases hf:Dir.find (nmS n) m.names with
 | none=>rw [Zpb hf];exact Int.natCast_nonneg _
 | some f =>
   rw [Zbp hf]
   have h1:=(h.find hf).2.2.1 (by rw [isS_S];cases hn:nmS n with | nil=>exact absurd hn he | cons a b=>rfl)
   have:=(h.segs f h1).2
   show ((m.files f).bytes.length:Int)≤S
   omega
theorem Zgf {n:Int} (h:0≤n∧n≤99999999):nmS n≠[]:=by
 unfold nmS ofP
 rw [if_neg (by omega),if_pos rfl]
 simp
theorem LOk.size (h:LOk T S m) {n:Int} (hn:0≤n∧n≤99999999):0≤(m.size (nmS n)).1∧(m.size (nmS n)).1≤S:=by
 obtain ⟨P,h⟩:=h
 refine ⟨?_,(h.size n).resolve_right (Zgf hn)⟩
 unfold Dk.size
 cases Dir.find (nmS n) m.names with
 | none=>exact Int.le_refl _
 | some f=>exact Int.natCast_nonneg _
theorem LOk.hints (h:LOk T S m) {n:Int} (hn:0≤n∧n≤99999999) (hz:m.size (nmH n)=(0,true)):LOk T S (m.append (nmH n) (hintB m n)).1:=by
 have h1:=Zi1 m n
 have h2:=h.size hn
 exact h.append _ _ (Nat.le_refl _) (fun e=>by rw [isS_H] at e;cases e) (by rw [hz];show (0:Int)+_≤_;omega)
theorem LOk.write (h:LOk T S m) {n:Int} (hn:0≤n∧n≤99999999):LOk (T+1) S (Zeo m n):=by
 have h1:=h.create (nmH n)
 unfold Zeo Zhm
 simp only [seqP]
 split
 rotate_left 1
 ·exact h1
 rename_i hc
 have h2:=h1.hints hn (Zaz hc)
 have h3:=h2.sync (nmH n)
 split
 ·split <;> exact h3
 ·exact h2
theorem LOk.lsync {L:Lg} (h:LOk T S L.dk):LOk T S (Z5 L).1.dk:=by
 unfold Z5
 split
 ·exact h
 ·exact h.sync _
theorem LOk.lsave {L:Lg} (h:LOk T S L.dk) (segs:List Int):LOk (T+3) S (Z6 L segs).1.dk:=by
 unfold Z6
 split <;> exact h.save _
theorem LOk.rolled {L:Lg} (h:LOk T S L.dk) (n:Int) (hS:13≤S) (hl:L.last=-1∨(0≤L.last∧L.last≤99999999)):LOk (T+6) S (rollA L n).1.dk:=by
 have h1:=h.make n hS
 unfold rollA
 split
 rotate_left 1
 ·exact h1.mono (by omega) (Nat.le_refl _)
 have h2:LOk (T+2+3) S (Z6 (L.on (makeP L.dk n).1) ((L.on (makeP L.dk n).1).man.segs++[n])).1.dk:=LOk.lsave (L:=L.on (makeP L.dk n).1) h1 _
 unfold rollB
 split
 rotate_left 1
 ·exact h2.mono (by omega) (Nat.le_refl _)
 unfold rollC
 have e:(Z6 (L.on (makeP L.dk n).1) ((L.on (makeP L.dk n).1).man.segs++[n])).1.last=L.last:=by unfold Z6;split <;> rfl
 rw [e]
 split
 ·exact h2.mono (by omega) (Nat.le_refl _)
 ·rename_i hne
  exact (h2.write (hl.resolve_left hne)).mono (by omega) (Nat.le_refl _)
theorem LOk.roll {L:Lg} (h:LOk T S L.dk) (hS:13≤S) (hl:L.last=-1∨(0≤L.last∧L.last≤99999999)):LOk (T+6) S (rollP L).1.dk:=by
 have h1:=LOk.lsync h
 have e:(Z5 L).1.last=L.last:=by unfold Z5;split <;> rfl
 unfold rollP
 split
 ·split
  ·exact h1.mono (by omega) (Nat.le_refl _)
  ·exact LOk.rolled (L:=(Z5 L).1.next (lnumP (Z5 L).1+1)) h1 _ hS (by rw [show ((Z5 L).1.next (lnumP (Z5 L).1+1)).last=L.last from e];exact hl)
 ·exact h1.mono (by omega) (Nat.le_refl _)
theorem Zki (m:Dk) (n:Int):((Yv m n).1.length:Int)≤(m.size (nmS n)).1:=by
 have h0:0≤(m.size (nmS n)).1:=by
  unfold Dk.size
  cases Dir.find (nmS n) m.names with
  | none=>exact Int.le_refl _
  | some f=>exact Int.natCast_nonneg _
 have key:∀ ts:List It,ts.length≤(ts.map fun t:It=>t.2.2.length+8).sum:=fun ts=>by
  induction ts with
  | nil=>exact Nat.le_refl _
  | cons t ts ih=>rw [List.length_cons,List.map_cons,List.sum_cons];omega
 unfold Yv
 split
 ·split
  ·obtain ⟨⟨rb,re⟩,hr⟩:∃ q,m.read (nmS n) 0 (m.size (nmS n)).1=q:=⟨_,rfl⟩
   rw [hr]
   dsimp only
   have h1:(fnsP ((allB (rb.getD []) 0).1.drop 1)).length≤((allB (rb.getD []) 0).1.drop 1).length:=by unfold fnsP;rw [List.length_map];exact List.length_filter_le _ _
   have h2:=key ((allB (rb.getD []) 0).1.drop 1)
   have h3:=Zly (allB (rb.getD []) 0).1
   have h4:=items_sum _ (rb.getD []) 0 (Nat.le_refl _)
   have h5:((rb.getD []).length:Int)≤(m.size (nmS n)).1:=by
    cases rb with
    | none=>exact h0
    | some b=>exact Zi0 hr
   omega
  ·exact h0
 ·exact h0
end
end Go.Proofs.YtkelafkbmnjpeaaGreat
namespace Go.Proofs.YtkelafkbmnjpeaaGreat
open Go.ChangeShapes Go.WideShapes Go.ChangeAt Go.RowKit
def In64 (x:Int):Prop:=-9223372036854775808≤x∧x≤9223372036854775807
structure MnIn (w:World) (A:Option Addr) (n c:Nat) (m:Mn):Prop where
 segs:Ints w A n c m.segs
 each:∀ x∈m.segs,In64 x
 next:In64 m.next
abbrev Mh:=Option Addr×Nat×Nat
def mnL (m:Mn) (p:Mh):List Value:=[.slice p.1 p.2.1 p.2.2,.int .i64 m.next]
theorem MnIn.grow {w w':World} {A:Option Addr} {n c:Nat} {m:Mn} (h:MnIn w A n c m) (hg:Grows w w'):MnIn w' A n c m:=⟨h.segs.grow hg,h.each,h.next⟩
structure Mans (w:World) (A:Option Addr) (n c:Nat) (ms:List Mn):Prop where
 len:ms.length=n
 cap:n≤c
 spot:∀ i,i < n→∃ (ad:Addr) (m:Mn) (p:Mh),A=some ad∧ad.block < w.heap.size∧ms[i]?=some m∧MnIn w p.1 p.2.1 p.2.2 m∧∀ k,k < 2→w.cell? ((ad.add (i*2)).add k)=(mnL m p)[k]?
instance:Inhabited (Mn×Mh):=⟨(Mn.none,(Option.none,0,0))⟩
section
variable {H:Type} {enc:TypeId×Value→H} {W:World} {base:Nat} {r:Reach}
end
end Go.Proofs.YtkelafkbmnjpeaaGreat
namespace Go.Proofs.YtkelafkbmnjpeaaGreat
open Go.RowKit Go.Maps Go.WideMaps
/-! Which logs there are. -/
theorem upTo_some:∀ {l:List Int} {a z:Int},upTo a l=some z→l.Pairwise (· < ·)∧(∀ n∈l,a < n∧n≤z)∧a≤z∧(z=a∨z∈l)
 | [],a,z,h=>by
   injection h with h
   subst h
   exact ⟨List.Pairwise.nil,fun n hn=>(by cases hn),Int.le_refl _,.inl rfl⟩
 | x :: l,a,z,h=>by
   rw [upTo] at h
   by_cases hx:x≤a
   ·rw [if_pos hx] at h;cases h
   ·rw [if_neg hx] at h
    obtain ⟨h1,h2,h3,h4⟩:=upTo_some h
    refine ⟨List.Pairwise.cons (fun n hn=>(h2 n hn).1) h1,fun n hn=>?_,by omega,?_⟩
    ·rcases List.mem_cons.1 hn with rfl | hn
     ·exact ⟨by omega,h3⟩
     ·have:=h2 n hn;omega
    ·rcases h4 with rfl | h4
     ·exact .inr (List.mem_cons_self ..)
     ·exact .inr (List.mem_cons_of_mem _ h4)
theorem upTo_rise:∀ {l:List Int} {a:Int},l.Pairwise (· < ·)→(∀ n∈l,a < n)→∃ z,upTo a l=some z
 | [],a,_,_=>⟨a,rfl⟩
 | x :: l,a,h1,h2=>by
   rw [upTo,if_neg (by have:=h2 x (List.mem_cons_self ..);omega)]
   exact upTo_rise (List.pairwise_cons.1 h1).2 fun n hn=>(List.pairwise_cons.1 h1).1 n hn
theorem Ym {m:Mn}:Ya m=true↔m.segs.length≤1000∧m.segs.Pairwise (· < ·)∧(∀ n∈m.segs,0≤n∧n < m.next)∧0≤m.next∧m.next≤99999999:=by
 unfold Ya
 rw [Bool.and_eq_true,decide_eq_true_eq]
 constructor
 ·rintro ⟨h1,h2⟩
  cases hz:upTo (-1) m.segs with
  | none=>rw [hz] at h2;cases h2
  | some z =>
    rw [hz] at h2
    have h2:=of_decide_eq_true h2
    obtain ⟨h3,h4,h5,_⟩:=upTo_some hz
    exact ⟨h1,h3,fun n hn=>by have:=h4 n hn;omega,by omega,h2.2⟩
 ·rintro ⟨h1,h2,h3,h4,h5⟩
  obtain ⟨z,hz⟩:=upTo_rise (a:=-1) h2 fun n hn=>by have:=h3 n hn;omega
  refine ⟨h1,?_⟩
  rw [hz]
  obtain ⟨_,_,_,h6⟩:=upTo_some hz
  refine decide_eq_true ⟨?_,h5⟩
  rcases h6 with rfl | h6
  ·omega
  ·exact (h3 z h6).2
structure LgR (L:Lg):Prop where
 man:Ya L.man=true
 last:L.last=-1∨L.last∈L.man.segs
 limit:64≤L.limit∧L.limit≤1073741824
section
variable {L:Lg}
theorem LgR.seg (h:LgR L) {n:Int} (hn:n∈L.man.segs):0≤n∧n≤99999999:=by have:=Ym.1 h.man;have:=this.2.2.1 n hn;omega
theorem LgR.next (h:LgR L):0≤L.man.next∧L.man.next≤99999999:=(Ym.1 h.man).2.2.2
theorem LgR.few (h:LgR L):L.man.segs.length≤1000:=(Ym.1 h.man).1
theorem LgR.rise (h:LgR L):L.man.segs.Pairwise (· < ·):=(Ym.1 h.man).2.1
theorem LgR.lastIn (h:LgR L):-1≤L.last∧L.last≤99999999:=by
 rcases h.last with e | e
 ·omega
 ·have:=h.seg e;omega
theorem LgR.on (h:LgR L) (m:Dk):LgR (L.on m):=⟨h.man,h.last,h.limit⟩
theorem LgR.sync (h:LgR L):LgR (Z5 L).1:=by
 unfold Z5
 split
 ·exact h
 ·exact h.on _
theorem Zb7 (L:Lg):(Z5 L).1.man=L.man∧(Z5 L).1.last=L.last∧(Z5 L).1.limit=L.limit:=by
 unfold Z5
 split <;> exact ⟨rfl,rfl,rfl⟩
theorem nextO_ge:∀ (l:List Int) (a:Int),a≤nextO l a∧∀ x∈l,x < nextO l a
 | [],a=>⟨Int.le_refl _,fun x hx=>(by cases hx)⟩
 | y :: l,a=>by
   have ih:=nextO_ge l (max a (y+1))
   unfold nextO at ih ⊢
   rw [List.foldl_cons]
   refine ⟨by omega,fun x hx=>?_⟩
   rcases List.mem_cons.1 hx with rfl | hx
   ·omega
   ·exact ih.2 x hx
theorem nextO_le:∀ (l:List Int) (a b:Int),a≤b→(∀ x∈l,x < b)→nextO l a≤b
 | [],a,b,h,_=>h
 | y :: l,a,b,h,hl=>by
   have h1:=hl y (List.mem_cons_self ..)
   have ih:=nextO_le l (max a (y+1)) b (by omega) fun x hx=>hl x (List.mem_cons_of_mem _ hx)
   unfold nextO at ih ⊢
   rw [List.foldl_cons]
   exact ih
theorem Zm0 {l l':List Int} (h:∀ x,x∈l↔x∈l') (a:Int):nextO l a=nextO l' a :=
 Int.le_antisymm (nextO_le l a _ (nextO_ge l' a).1 fun x hx=>(nextO_ge l' a).2 x ((h x).1 hx)) (nextO_le l' a _ (nextO_ge l a).1 fun x hx=>(nextO_ge l a).2 x ((h x).2 hx))
theorem Zop (L:Lg):L.man.next≤lnumP L:=(nextO_ge _ _).1
end
/-! What stays. -/
theorem Zt {B:Nat} {out out':Nat→Prop} {w w':World} (hs:Stays B out' w w') (ho:∀ k,out k→out' k):Stays B out w w':=hs.wider fun k _ hk=>⟨hk.1,fun e=>hk.2 (ho k e)⟩
theorem Zo {B:Nat} {out:Nat→Prop} {w w':World} {g t:Nat} {cs:Array Value} (hs:Stays B out w w') (hw:Whole w g t cs) (ho:out g):Whole w' g t cs:=hw.same (hs.same _ hw.lt fun e=>e.2 ho)
/-! In memory. -/
def lgC (d:Nat) (A:Option Addr) (n c:Nat) (L:Lg):Array Value:=#[.pointer (some ⟨d,0,none⟩),.int .i64 L.limit,.slice A n c,.int .i64 L.man.next,.int .i64 L.last]
def lgO (l:Nat) (A:Option Addr) (out:Nat→Prop) (k:Nat):Prop:=out k∨k=l∨∃ ad,A=some ad∧k=ad.block
def LgAt (B:Nat) (w0 w:World) (d l:Nat) (out:Nat→Prop) (A:Option Addr) (n c:Nat) (L:Lg):Prop :=
 DkIn B w0 w d (lgO l A out) L.dk∧Whole w l 100 (lgC d A n c L)∧w.ownsRow B 3 1 (.slice A n c) n (L.man.segs.map iV)∧B≤l∧¬ out l∧∀ ad,A=some ad→ad.block≠l∧¬ out ad.block
def LgIn (B:Nat) (w0 w:World) (d l:Nat) (out:Nat→Prop) (L:Lg):Prop:=∃ A n c,LgAt B w0 w d l out A n c L
section
variable {B d l n c:Nat} {w0 w w':World} {out out':Nat→Prop} {A:Option Addr} {L:Lg}
theorem LgAt.in (h:LgAt B w0 w d l out A n c L):LgIn B w0 w d l out L:=⟨A,n,c,h⟩
theorem LgAt.dk (h:LgAt B w0 w d l out A n c L):DkIn B w0 w d (lgO l A out) L.dk:=h.1
theorem LgAt.whole (h:LgAt B w0 w d l out A n c L):Whole w l 100 (lgC d A n c L):=h.2.1
theorem LgAt.own (h:LgAt B w0 w d l out A n c L):w.ownsRow B 3 1 (.slice A n c) n (L.man.segs.map iV):=h.2.2.1
theorem LgAt.ints (h:LgAt B w0 w d l out A n c L):Ints w A n c L.man.segs:=Ints.owned h.own
theorem LgAt.lt (h:LgAt B w0 w d l out A n c L):l < w.heap.size:=h.whole.lt
theorem LgAt.grow (h:LgAt B w0 w d l out A n c L) (hg:Grows w w'):LgAt B w0 w' d l out A n c L:=by
 obtain ⟨h1,h2,h3,h4⟩:=h
 exact ⟨h1.grow hg,hg.whole h2,Zd h3 hg,h4⟩
theorem LgIn.grow (h:LgIn B w0 w d l out L) (hg:Grows w w'):LgIn B w0 w' d l out L:=by
 obtain ⟨A,n,c,h⟩:=h
 exact (h.grow hg).in
theorem LgAt.less (h:LgAt B w0 w d l out A n c L) (ho:∀ k,out' k→out k):LgAt B w0 w d l out' A n c L:=by
 obtain ⟨h1,h2,h3,h4,h5,h6⟩:=h
 exact ⟨h1.less fun k hk=>hk.imp (ho k) id,h2,h3,h4,fun e=>h5 (ho _ e),fun ad e=>⟨(h6 ad e).1,fun e2=>(h6 ad e).2 (ho _ e2)⟩⟩
theorem LgIn.less (h:LgIn B w0 w d l out L) (ho:∀ k,out' k→out k):LgIn B w0 w d l out' L:=by
 obtain ⟨A,n,c,h⟩:=h
 exact (h.less ho).in
theorem LgIn.low (h:LgIn B w0 w d l out L):Below B w0 w:=by obtain ⟨_,_,_,h,_⟩:=h;exact h.low
theorem LgIn.size (h:LgIn B w0 w d l out L):B≤w.heap.size:=by obtain ⟨_,_,_,h,_⟩:=h;exact h.size
end
end Go.Proofs.YtkelafkbmnjpeaaGreat
namespace Go.Proofs.YtkelafkbmnjpeaaGreat
open Go.RowKit Go.Sort
def intV (x:Int):Value:=.int .i64 x
def strV (bs:List UInt8):Value:=.string ⟨bs.toArray⟩
theorem infoInt:(Tryz.prog.info? 3).map (fun i=>(i.zero,i.size,i.bytes))=some (some (.int .i64 0),1,8):=by kernel_rfl
theorem Zs7 (xs:List Int):∀ u∈xs.map intV,u.oneCell'=true:=by
 intro u hu
 obtain ⟨b,_,rfl⟩:=List.mem_map.1 hu
 rfl
theorem Whole.row {w:World} {g t:Nat} {cs:Array Value} (h:Whole w g t cs) (xs:List Value) (n:Nat) (he:cs=xs.toArray) (hn:xs.length=n):Row w w.heap.size (some ⟨g,0,none⟩) n xs :=
 ⟨hn,fun k v hv=>⟨⟨g,0,none⟩,rfl,h.lt,by
  rw [show (⟨g,0,none⟩:Addr).add k=⟨g,k,none⟩ by unfold Addr.add;split <;> simp_all,h.cell k,he]
  simpa using hv⟩⟩
section
variable {ops:Array Oper} {rest:List Oper} {o:Oper} {a:Act} {w:World} {Q:Exit→Act→World→Prop} {K:Act→World→Prop} {E:Prop}
theorem Zfp {w:World} {ty base:Nat} {A0:Option Addr} {n c0:Nat} {xs:List Int} (hown:w.ownsRow base 3 1 (.slice A0 n c0) n (xs.map intV))
 {A:Option Addr} {m c B:Nat} {ys:List Int} (hr:Row w B A m (ys.map intV)) (hbare:A=none→c=0) (hk2:n+m≤1000000000000) (hbase:base≤w.heap.size) :
 ∃ A' c' w',(Builtin.append_ #[40,40] ty #[.slice A0 n c0,.slice A m c]).run Tryz.prog w=.ok (.slice A' (n+m) c') w'∧w'.ownsRow base 3 1 (.slice A' (n+m) c') (n+m) ((xs++ys).map intV)∧w.grownBy w' (Value.slice A0 n c0).ownBlock∧Below base w w'∧((Value.slice A' (n+m) c').ownBlock=(Value.slice A0 n c0).ownBlock∨(Value.slice A' (n+m) c').ownBlock=some w.heap.size):=by
 obtain ⟨i0,hi,hz0,hz1,hz2⟩:=info_parts infoInt
 obtain ⟨v',w',hrun,h2,h3,h4⟩:=Jb (P:=Tryz.prog) (ty:=ty) Tryz.underlying40 hi hz0 hz1 hz2 rfl hown hr hbare (Zs7 ys) (by unfold maxLen;omega) (by omega) hbase
 obtain ⟨A',c',rfl,_⟩:=Zp h2
 rw [←List.map_append] at h2
 exact ⟨A',c',w',hrun,h2,h3,(Below.refl _ w).grown h3 hbase (fun g hg=>(hown.lt g hg).1),h4⟩
theorem Zde (hgd:o.guard=none) (s x:Operand) (ho:o.op=.call { callee:=.builtin .append,args:=#[s,x],argTypes:=#[40,40] })
 {base:Nat} {A0:Option Addr} {n c0:Nat} {xs:List Int} (hs:a.eval s=.slice A0 n c0) (hown:w.ownsRow base 3 1 (.slice A0 n c0) n (xs.map intV))
 {A:Option Addr} {m c B:Nat} {ys:List Int} (hx:a.eval x=.slice A m c) (hr:Row w B A m (ys.map intV)) (hbare:A=none→c=0) (k:Nat) (hk:n+m=k) (hk2:k≤1000000000000) (hbase:base≤w.heap.size)
 (h:∀ A' c' w',w'.ownsRow base 3 1 (.slice A' k c') k ((xs++ys).map intV)→w.grownBy w' (Value.slice A0 n c0).ownBlock→Below base w w'→wpList Tryz.prog ops Q rest (a.put o.dst (.slice A' k c')) w'):wpList Tryz.prog ops Q (o :: rest) a w:=by
 subst hk
 refine wpList_plain hgd fun K hK=>?_
 obtain ⟨A',c',w',hrun,h2,h3,h4,_⟩:=Zfp (ty:=o.type) hown hr hbare hk2 hbase
 unfold Oper.wp execOp
 simp only [ho,resolve,invoke,builtin,Sem.run_bind,Sem.run_pure,Result.andThen_ok,List.map_toArray,List.map_cons,List.map_nil,hs,hx,hrun]
 exact hK _ _ (h A' c' w' h2 h3 h4)
end
theorem Zs8 (base:Nat) (A:Option Addr) (n c:Nat) (xs:List Int) (w:World) (ho:w.ownsRow base 3 1 (.slice A n c) n (xs.map intV)) (hb:base≤w.heap.size) (hn:n≤1000000000000) :
 Calls Tryz.prog 184 #[.slice A n c] w fun e w'=>e=.returned (.tuple #[])∧w'.ownsRow base 3 1 (.slice A n c) n ((xs.mergeSort fun x y=>decide (x≤y)).map intV)∧Below base w w':=by
 have hl:xs.length=n:=by simpa using ho.1
 rcases ho.2 with ⟨h1,h2⟩ | ⟨g,cap,cur,h1,h2,h3,h4,h5,h6,h7⟩
 ·injection h1 with q1 q2 q3
  subst q1 q2 q3
  refine (slices_Sort_int_none none 0 w).mono ?_
  rintro e w' ⟨rfl,rfl⟩
  have hx:xs=[]:=List.eq_nil_of_length_eq_zero hl
  subst hx
  exact ⟨rfl,by simpa using ho,Below.refl _ _⟩
 ·injection h1 with q1 q2 q3
  subst q1 q3
  have hH:Holds (Value.int .i64) w g 0 xs.toArray:=holds_of_blockI h3 (by rw [Nat.mul_one] at h7;rw [hl];exact h7)
  subst hl
  refine (slices_Sort_int g 0 c xs w hH (Array.getElem?_eq_some_iff.1 h3).1 (by omega)).mono ?_
  rintro e w' ⟨rfl,q,os,rfl⟩
  have hlm:(xs.mergeSort fun x y=>decide (x≤y)).length=xs.length:=List.length_mergeSort _
  exact ⟨rfl,ownsRow_sortedI hlm h2 h3 h4 h5 h6,(Below.refl _ w).grown (grownBy_sortedI _) hb (fun k hk=>by injection hk with hk;omega)⟩
theorem Zk9 (base:Nat) (A:Option Addr) (n c:Nat) (xs:List Int) (w:World) (ho:w.ownsRow base 3 1 (.slice A n c) n (xs.map intV)) (hb:base≤w.heap.size) (hn:n≤1000000000000) :
 Calls Tryz.prog 185 #[.slice A n c] w fun e w'=>e=.returned (.slice A (Lib.compact xs).length c)∧w'.ownsRow base 3 1 (.slice A (Lib.compact xs).length c) (Lib.compact xs).length ((Lib.compact xs).map intV)∧Below base w w':=by
 have hl:xs.length=n:=by simpa using ho.1
 have ho':=ho
 rcases ho.2 with ⟨h1,h2⟩ | ⟨g,cap,cur,h1,h2,h3,h4,h5,h6,h7⟩
 ·injection h1 with q1 q2 q3
  subst q1 q2 q3
  refine (slices_Compact_int_empty none 0 w).mono ?_
  rintro e w' ⟨rfl,rfl⟩
  have hx:xs=[]:=List.eq_nil_of_length_eq_zero hl
  subst hx
  exact ⟨rfl,by simpa [Lib.compact,Lib.compactUpTo] using ho,Below.refl _ _⟩
 ·injection h1 with q1 q2 q3
  subst q1 q3
  have hH:Holds (Value.int .i64) w g 0 xs.toArray:=holds_of_blockI h3 (by rw [Nat.mul_one] at h7;rw [hl];exact h7)
  subst hl
  refine (slices_Compact_int g 0 c xs w hH (by omega) h4).mono ?_
  rintro e w' ⟨rfl,q,rfl⟩
  have hle:=Lib.compact_length_le xs
  have:=Lib.ownsRow_putRow (enc:=Value.int .i64) (q:=q) (ys:=Lib.compact xs++List.replicate (xs.length - (Lib.compact xs).length) 0) ho' (by simp;omega) hle
  rw [List.take_left] at this
  exact ⟨rfl,this,Lib.below_putRow (Below.refl _ w) h2⟩
end Go.Proofs.YtkelafkbmnjpeaaGreat
namespace Go.Proofs.YtkelafkbmnjpeaaGreat
open Go.RowKit Go.Maps Go.WideMaps
theorem Ziz {w:World} {base g n c:Nat} {xs:List Int} (h:w.ownsRow base 3 1 (.slice (some ⟨g,0,none⟩) n c) n (xs.map iV)):∀ j,j < xs.length→w.cell? ⟨g,0+j,none⟩=some (.int .i64 (xs.getD j 0)):=by
 intro j hj
 have hI:=Ints.owned h
 obtain ⟨ad,x,e,hc,hx,_⟩:=hI.get (j:=j) (by have:=hI.len;omega)
 injection e with e
 subst e
 rw [show (⟨g,0,none⟩:Addr).add j=⟨g,0+j,none⟩ by unfold Addr.add;split <;> simp_all] at hc
 rw [hc,List.getD_eq_getElem?_getD,hx]
 rfl
theorem Yk {w:World} {base n c:Nat} {A:Option Addr} {xs:List Value} {t:TypeId} {s:Nat} (h:w.ownsRow base t s (.slice A n c) n xs):(A=none∧n=0∧c=0)∨∃ g,A=some ⟨g,0,none⟩∧base≤g∧g < w.heap.size:=by
 have hl:=h.lt
 rcases h.2 with ⟨h1,h2⟩ | ⟨g,cap,cur,h1,_⟩
 ·injection h1 with q1 q2 q3
  exact .inl ⟨q1,q2,q3⟩
 ·injection h1 with q1 q2 q3
  subst q1
  have:=hl g rfl
  exact .inr ⟨g,rfl,this.1,this.2⟩
theorem Zoo (base:Nat) (A:Option Addr) (n c:Nat) (xs:List Int) (w:World) (ho:w.ownsRow base 3 1 (.slice A n c) n (xs.map iV)) (hn:n≤1000000) :
 Calls Tryz.prog 71 #[.slice A n c] w fun e w'=>∃ A' c',e=.returned (.slice A' n c')∧w'.ownsRow w.heap.size 3 1 (.slice A' n c') n (xs.map iV)∧Below w.heap.size w w':=by
 have hlen:=(Ints.owned ho).len
 rcases Yk ho with ⟨rfl,rfl,rfl⟩ | ⟨g,rfl,_⟩
 ·have hx:xs=[]:=List.eq_nil_of_length_eq_zero hlen
  subst hx
  refine (slices_Clone_int_nil 0 0 w).mono ?_
  rintro e w' ⟨rfl,rfl⟩
  exact ⟨none,0,rfl,World.ownsRow_nil _ _ _ _,Below.refl _ _⟩
 ·refine (slices_Clone_int g 0 n c xs w (by omega) (by omega) (Ziz ho)).mono ?_
  rintro e w' ⟨v',rfl,h1,_,h2⟩
  rw [List.take_of_length_le (by omega)] at h1
  obtain ⟨A',c',rfl,_⟩:=Zp h1
  exact ⟨A',c',rfl,h1,h2⟩
theorem Zgd (base:Nat) (A:Option Addr) (n c:Nat) (xs:List Int) (x:Int) (w:World) (ho:w.ownsRow base 3 1 (.slice A n c) n (xs.map iV)) (hr:xs.Pairwise (· < ·)) (hn:n≤1000000) :
 Calls Tryz.prog 141 #[.slice A n c,.int .i64 x] w fun e w'=>∃ k:Nat,e=.returned (.tuple #[.int .i64 (k:Int),.bool (decide (x∈xs))])∧Grows w w':=by
 have hlen:=(Ints.owned ho).len
 rcases Yk ho with ⟨rfl,rfl,rfl⟩ | ⟨g,rfl,_⟩
 ·have hx:xs=[]:=List.eq_nil_of_length_eq_zero hlen
  subst hx
  refine (slices_BinarySearch_int_empty none 0 x w).mono ?_
  rintro e w' ⟨rfl,rfl⟩
  exact ⟨0,rfl,Grows.refl _⟩
 ·refine (slices_BinarySearch_int g 0 n c xs x w (by omega) (by omega) (Ziz ho) ?_).mono ?_
  ·exact (hr.imp fun h=>by omega).sublist (List.take_sublist _ _)
  rintro e w' ⟨rfl,q,rfl⟩
  rw [List.take_of_length_le (by omega)]
  refine ⟨_,by rw [show xs.contains x=decide (x∈xs) by rw [Bool.eq_iff_iff];simp],?_⟩
  exact Zkn (Below.refl _ _) q
end Go.Proofs.YtkelafkbmnjpeaaGreat
set_option maxHeartbeats 4000000
set_option maxRecDepth 100000
namespace Go.Proofs.YtkelafkbmnjpeaaGreat
open Go.Lib (hid)
open Go.RowKit
def numP (l:List UInt8):Int×Bool:=if l.all isDig=true then ((val 0 l:Nat),true) else (0,false)
theorem Ztd (l:List UInt8) (j:Nat) (c:UInt8) (h:l[j]?=some c):val 0 (l.take (j+1))=10*val 0 (l.take j)+(c.toNat - 48)∧((l.take (j+1)).all isDig=((l.take j).all isDig&&isDig c)):=by
 have hj:j < l.length:=by
  rcases Nat.lt_or_ge j l.length with h' | h'
  ·exact h'
  ·rw [List.getElem?_eq_none h'] at h;cases h
 have e:l.take (j+1)=l.take j++[c]:=by
  rw [List.take_succ_eq_append_getElem hj]
  rw [List.getElem?_eq_getElem hj,Option.some.injEq] at h
  rw [h]
 rw [e]
 refine ⟨?_,by simp⟩
 unfold val
 rw [List.foldl_append]
 rfl
theorem Zqo (l:List UInt8) (j:Nat) (c:UInt8) (h:l[j]?=some c) (hd:isDig c=false):numP l=(0,false):=by
 unfold numP
 rw [if_neg]
 intro ha
 have:=List.all_eq_true.1 ha c (List.mem_of_getElem? h)
 rw [hd] at this
 cases this
theorem Zu2 (s:ByteArray) (j:Nat) (h:j < s.size):s.data.toList[j]?=some (s[j]'h):=by
 rw [Array.getElem?_toList]
 exact Array.getElem?_eq_getElem h
theorem Zdf {P:Program} (w:World) (k:Nat) (s:ByteArray) (pos:Nat) (ty:TypeId) (c:UInt8) (hk:w.heap[k]?=some (.stringIter s pos)) (h:pos < s.size) (hc:s[pos]'h=c) (ha:c.toNat < 128) :
 (Instr.next (.pointer (some ⟨k,0,none⟩)) true ty).run P w=.ok (.tuple #[.bool true,.int .i64 pos,.int .i32 c.toNat]) (w.iterAt k s (pos+1)):=by
 subst hc
 exact Lib.run_next_ascii_at w k s pos ty hk h ha
theorem Zbh {P:Program} (w:World) (k:Nat) (s:ByteArray) (pos:Nat) (ty:TypeId) (hk:w.heap[k]?=some (.stringIter s pos)) (h:pos < s.size) (ha:128≤(s[pos]'h).toNat) :
 ∃ (r q:Nat),(Instr.next (.pointer (some ⟨k,0,none⟩)) true ty).run P w=.ok (.tuple #[.bool true,.int .i64 pos,.int .i32 (r:Int)]) (w.iterAt k s q)∧128≤r∧r≤2147483647 :=
 ⟨_,_,Lib.run_next_any_at w k s pos ty hk h,(decode_high s pos h ha).1,decode_le s pos⟩
theorem Zny (s:ByteArray) (hs:s.size≤8) (w:World) :
 Calls Tryz.prog 257 #[.string s] w fun e w'=>e=.returned (.tuple #[.int .i64 (numP s.data.toList).1,.bool (numP s.data.toList).2])∧Grows w w':=by
 have hlen:s.data.toList.length=s.size:=Array.length_toList
 go_enter Tryz.func257,Tryz.ntmps257
 go_wp2_with (fail)
 go_loopw [4,6] (fun a b wr=>∃ (j:Nat) (X:Nat),j≤s.size∧a=.int .i64 (X:Int)∧Hid (X=val 0 (s.data.toList.take j))∧Hid ((s.data.toList.take j).all isDig=true)∧Hid (wr.heap[w.heap.size]?=some (.stringIter s j))∧Hid (Grows w wr)) (fun _ _ wr=>match wr.heap[w.heap.size]? with | some (.stringIter _ j)=>s.size - j | _=>0)
 case atStart=>exact ⟨0,0,by omega,rfl,hid rfl,hid rfl,hid (World.iter_heap w s 0),hid (Zb w _)⟩
 case round =>
  obtain ⟨j,X,hj,rfl,HX,HA,HI,HB⟩:=hrel
  by_cases hlt:j < s.size
  ·have hb:=Zu2 s j hlt
   obtain ⟨c,hc⟩:∃ c,s[j]'hlt=c:=⟨_,rfl⟩
   rw [hc] at hb
   obtain ⟨v1,v2⟩:=Ztd s.data.toList j c hb
   have hcl:c.toNat < 256:=c.toNat_lt
   have hXl:=val_lt (s.data.toList.take j) 0 HA.out
   have hpw:10 ^ (s.data.toList.take j).length≤10 ^ 7:=Nat.pow_le_pow_right (by omega) (by rw [List.length_take,hlen];omega)
   rw [←HX.out] at hXl
   have hXb:X < 10000000:=by omega
   by_cases hasc:c.toNat < 128
   ·have hnx:=fun ty=>Zdf (P:=Tryz.prog) wr w.heap.size s j ty c HI.out hlt hc hasc
    have hnew:=Lib.iterAt_heap wr w.heap.size s j (j+1) HI.out
    have hbel:=Lib.below_iterAt HB.out (Nat.le_refl _) s (j+1)
    generalize wr.iterAt w.heap.size s (j+1)=w2 at *
    have HV1:=hid v1
    have HV2:=hid v2
    have HN:=hid hnew
    have HBE:=hid hbel
    have HB0:=hid hb
    clear v1 v2 hnew hbel hb hXl hpw hc
    have hdig:isDig c=decide (48≤c.toNat∧c.toNat≤57):=rfl
    obtain ⟨C,hC⟩:∃ C,c.toNat=C:=⟨_,rfl⟩
    rw [hC] at hnx HV1 hcl hdig
    by_cases hd:48≤C∧C≤57
    ·obtain ⟨d,hd2⟩:∃ d:Nat,C=48+d:=⟨C - 48,by omega⟩
     subst hd2
     have hd3:d≤9:=by omega
     rw [decide_eq_true hd] at hdig
     have HD:=hid hdig
     have e1:((48+d:Nat):Int)=48+(d:Int):=by omega
     rw [e1] at hnx
     have h1:¬ (48+(d:Int)) < 48:=by omega
     have h2:¬ (57:Int) < 48+(d:Int):=by omega
     have e2:IntKind.i32.wrap (48+(d:Int) - 48)=(d:Int):=by
      rw [show (48+(d:Int) - 48)=(d:Int) by omega]
      exact IntWalk.i32_in _ ⟨by omega,by omega⟩
     have HC:=hid hC
     clear hdig hd e1 hC hasc
     go_wp2_with (fail)
     refine ⟨⟨j+1,10*X+d,by omega,by congr 1,hid ?_,hid ?_,HN,HBE⟩,?_⟩
     ·rw [HV1.out,HX.out]
      omega
     ·rw [HV2.out,HA.out,HD.out]
      rfl
     ·rw [HN.out,HI.out]
      dsimp only
      omega
    ·rw [decide_eq_false hd] at hdig
     have HF:=hid (Zqo _ j c HB0.out hdig)
     clear hdig hC hasc
     by_cases h1:(C:Int) < 48
     ·go_wp2_with (fail)
      go_ret2
      rw [HF.out]
      exact ⟨rfl,HBE.out⟩
     ·have h2:(57:Int) < (C:Int):=by omega
      go_wp2_with (fail)
      go_ret2
      rw [HF.out]
      exact ⟨rfl,HBE.out⟩
   ·have hh:128≤(s[j]'hlt).toNat:=by rw [hc];omega
    have hnx:=fun ty=>Zbh (P:=Tryz.prog) wr w.heap.size s j ty HI.out hlt hh
    obtain ⟨r,q,hr1,hr2⟩:=Zbh (P:=Tryz.prog) wr w.heap.size s j 3 HI.out hlt hh
    have hnx:∀ ty,(Instr.next (.pointer (some ⟨w.heap.size,0,none⟩)) true ty).run Tryz.prog wr=.ok (.tuple #[.bool true,.int .i64 j,.int .i32 (r:Int)]) (wr.iterAt w.heap.size s q):=fun ty=>hr1
    have hbel:=Lib.below_iterAt HB.out (Nat.le_refl _) s q
    have hdig:isDig c=false:=decide_eq_false (by omega)
    have HF:=hid (Zqo _ j c hb hdig)
    generalize wr.iterAt w.heap.size s q=w2 at *
    have HBE:=hid hbel
    have h1:¬ (r:Int) < 48:=by omega
    have h2:(57:Int) < (r:Int):=by omega
    clear v1 v2 hbel hb hXl hpw hc hasc hdig hh hr1 hr2
    go_wp2_with (fail)
    go_ret2
    rw [HF.out]
    exact ⟨rfl,HBE.out⟩
  ·obtain rfl:j=s.size:=by omega
   have hnx:=fun ty=>Lib.run_next_end_at (P:=Tryz.prog) wr w.heap.size s s.size ty HI.out (Nat.lt_irrefl _)
   have he:numP s.data.toList=((X:Int),true):=by
    have h1:=HX.out
    have h2:=HA.out
    rw [List.take_of_length_le (by omega)] at h1 h2
    unfold numP
    rw [if_pos h2,h1]
   have HE:=hid he
   clear he
   go_wp2_with (fail)
   go_ret2
   rw [HE.out]
   exact ⟨rfl,HB.out⟩
end Go.Proofs.YtkelafkbmnjpeaaGreat
