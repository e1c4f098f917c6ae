/-
  Texts that the statements lean on, one behind the other.
-/
import Derived.Test.YtkelafkbmnjpeaaGreatMG08
import Derived.Test.YtkelafkbmnjpeaaGreatMG01
import Derived.Lib.Hide
import Derived.LoopTactic
import Derived.IntWalk
import Derived.WalkLawsBesides
import Derived.Maps.RangeWalk
import Derived.Shelf.SlMaps.Clone
set_option linter.unusedSimpArgs false
set_option linter.unusedVariables false
namespace Go.Proofs.YtkelafkbmnjpeaaGreat
open Go.ChangeShapes Go.WideShapes Go.ChangeAt Go.RowKit
def iV (x:Int):Value:=.int .i64 x
theorem infoI:(Tryz.prog.info? 3).map (fun i=>(i.zero,i.size,i.bytes))=some (some (.int .i64 0),1,8):=by kernel_rfl
theorem Ztx (xs:List Int):∀ u∈xs.map iV,u.oneCell'=true:=by
 intro u hu
 obtain ⟨b,_,rfl⟩:=List.mem_map.1 hu
 rfl
structure Ints (w:World) (A:Option Addr) (n c:Nat) (xs:List Int):Prop where
 row:Row w w.heap.size A n (xs.map iV)
 cap:n≤c
 bare:A=none→c=0
theorem Ints.len {w:World} {A:Option Addr} {n c:Nat} {xs:List Int} (h:Ints w A n c xs):xs.length=n:=by have:=h.row.len;simpa using this
theorem Ints.grow {w w':World} {A:Option Addr} {n c:Nat} {xs:List Int} (h:Ints w A n c xs) (hg:Grows w w'):Ints w' A n c xs:=⟨hg.row h.row,h.cap,h.bare⟩
theorem Ints.get {w:World} {A:Option Addr} {n c:Nat} {xs:List Int} (h:Ints w A n c xs) {j:Nat} (hj:j < n):∃ ad x,A=some ad∧w.cell? (ad.add j)=some (.int .i64 x)∧xs[j]?=some x∧ad.block < w.heap.size:=by
 have hl:=h.len
 have hx:xs[j]?=some xs[j]:=List.getElem?_eq_getElem (by omega)
 obtain ⟨ad,hA,hb,hc⟩:=h.row.spot j (iV xs[j]) (by rw [List.getElem?_map,hx];rfl)
 exact ⟨ad,xs[j],hA,hc,hx,hb⟩
theorem Ints.owned {w:World} {base n c:Nat} {A:Option Addr} {xs:List Int} (h:w.ownsRow base 3 1 (.slice A n c) n (xs.map iV)):Ints w A n c xs:=by
 refine ⟨Row.owned h,?_,?_⟩
 ·rcases h.2 with ⟨h1,h2⟩ | ⟨g,cap,_,h1,_,_,h2,_⟩
  ·omega
  ·injection h1 with _ _ h1;omega
 ·intro hA
  rcases h.2 with ⟨h1,h2⟩ | ⟨g,cap,_,h1,_⟩
  ·injection h1
  ·injection h1 with h1 _ _;rw [hA] at h1;cases h1
theorem Ints.lit {w:World} {g t:Nat} {cs:Array Value} (h:Whole w g t cs) (xs:List Int) {n:Nat} (he:cs=(xs.map iV).toArray) (hn:xs.length=n):Ints w (some ⟨g,0,none⟩) n n xs :=
 ⟨⟨by simpa using hn,fun k v hv=>⟨⟨g,0,none⟩,rfl,h.lt,by
   rw [show (⟨g,0,none⟩:Addr).add k=⟨g,k,none⟩ by unfold Addr.add;split <;> simp_all,h.cell k,he]
   simpa using hv⟩⟩,Nat.le_refl _,fun h=>by cases h⟩
section
variable {H:Type} {enc:TypeId×Value→H} {P:Program} {W:World} {base:Nat} {r:Reach}
end
end Go.Proofs.YtkelafkbmnjpeaaGreat
namespace Go.Proofs.YtkelafkbmnjpeaaGreat
open Go.RowKit Go.Maps Go.WideMaps
attribute [local irreducible] Go.wpQuiet
def left (l:List Int) (made n kept:Nat):Nat:=kept+(min (max (more l made) 0) ((n:Int) - kept)).toNat
end Go.Proofs.YtkelafkbmnjpeaaGreat
namespace Go.Proofs.YtkelafkbmnjpeaaGreat
open Go.RowKit Go.Maps Go.WideMaps
section
variable (files:Nat→Fl) (l:List Int)
end
end Go.Proofs.YtkelafkbmnjpeaaGreat
namespace Go.Proofs.YtkelafkbmnjpeaaGreat
open Go.RowKit Go.Maps Go.WideMaps
attribute [local irreducible] Go.wpQuiet
section
variable {w:World} {d:Nat} {own:Nat→Prop} {G:Geo} {m:Dk}
end
end Go.Proofs.YtkelafkbmnjpeaaGreat
namespace Go.Proofs.YtkelafkbmnjpeaaGreat
open Go.RowKit Go.Maps Go.WideMaps
structure DkOk (K:Nat) (m:Dk):Prop where
 cut:-1≤m.cut∧m.cut≤9223372036854775807
 fail:-1≤m.fail∧m.fail≤9223372036854775807
 made:m.made≤K
 pend:m.kept.length+m.pend.length≤K
 names:m.names.length≤K
 bytes:∀ i,i < m.made→(m.files i).bytes.length≤K∧(m.files i).kept≤(m.files i).bytes.length
section
variable {K K':Nat} {m:Dk}
theorem DkOk.fit (h:DkOk K m) (hK:K≤1000000000):DkFit m :=
 ⟨h.cut,h.fail,Nat.le_trans h.made hK,by have:=h.pend;omega,Nat.le_trans h.names hK,by have:=h.pend;omega,fun i hi=>⟨Nat.le_trans (h.bytes i hi).1 hK,(h.bytes i hi).2⟩⟩
theorem DkOk.mono (h:DkOk K m) (hK:K≤K'):DkOk K' m :=
 ⟨h.cut,h.fail,Nat.le_trans h.made hK,Nat.le_trans h.pend hK,Nat.le_trans h.names hK,fun i hi=>⟨Nat.le_trans (h.bytes i hi).1 hK,(h.bytes i hi).2⟩⟩
theorem DkOk.nums (h:DkOk K m) {m':Dk} (hc:-1≤m'.cut∧m'.cut≤9223372036854775807) (hf:-1≤m'.fail∧m'.fail≤9223372036854775807) (h1:m'.made=m.made) (h2:m'.names=m.names) (h3:m'.kept=m.kept) (h4:m'.pend=m.pend) (h5:m'.files=m.files):DkOk K m' :=
 ⟨hc,hf,h1 ▸ h.made,by rw [h3,h4];exact h.pend,h2 ▸ h.names,fun i hi=>by rw [h5];exact h.bytes i (h1 ▸ hi)⟩
theorem Zcr {x:Int} (h:-1≤x∧x≤9223372036854775807):-1≤sooner x∧sooner x≤9223372036854775807:=by unfold sooner;split <;> omega
theorem DkOk.soon (h:DkOk K m):DkOk K m.sooner:=h.nums (Zcr h.cut) (Zcr h.fail) rfl rfl rfl rfl rfl
theorem DkOk.thing (h:DkOk K m) (hK:K≤K') {does:Dk→Dk} (hd:DkOk K m.sooner→DkOk K' (does m.sooner)):DkOk K' (m.thing does).1:=by
 have hs:=h.soon
 unfold Dk.thing
 split
 ·exact h.mono hK
 ·split
  ·exact (hs.mono hK).nums (by simp) hs.fail rfl rfl rfl rfl rfl
  ·split
   ·exact (hs.mono hK).nums hs.cut (by simp) rfl rfl rfl rfl rfl
   ·have h2:=hd hs
    exact h2.nums h2.cut h2.fail rfl rfl rfl rfl rfl
theorem DkOk.change (h:DkOk K m) (c:Ch):DkOk (K+1) (m.change c) :=
 ⟨h.cut,h.fail,Nat.le_succ_of_le h.made,by show m.kept.length+(m.pend++[c]).length≤_;rw [List.length_append];have:=h.pend;simp only [List.length_singleton];omega,
  by show (c.on m.names).length≤_;have:=Zd9 c m.names;have:=h.names;omega,fun i hi=>⟨Nat.le_succ_of_le (h.bytes i hi).1,(h.bytes i hi).2⟩⟩
theorem DkOk.create (h:DkOk K m) (n:Nm):DkOk (K+1) (m.create n).1:=by
 unfold Dk.create
 split
 ·exact h.mono (Nat.le_succ _)
 ·split
  ·exact h.mono (Nat.le_succ _)
  ·split
   ·exact h.mono (Nat.le_succ _)
   ·split
    ·exact h.mono (Nat.le_succ _)
    ·refine h.thing (Nat.le_succ _) fun hs=>?_
     have h1:=hs.change (.made n m.sooner.made)
     refine ⟨h1.cut,h1.fail,Nat.succ_le_succ hs.made,h1.pend,h1.names,fun i hi=>?_⟩
     show (if i=m.sooner.made then (⟨[],0⟩:Fl) else m.sooner.files i).bytes.length≤_∧(if i=m.sooner.made then (⟨[],0⟩:Fl) else m.sooner.files i).kept≤(if i=m.sooner.made then (⟨[],0⟩:Fl) else m.sooner.files i).bytes.length
     split
     ·exact ⟨Nat.zero_le _,Nat.le_refl _⟩
     ·have:i < m.sooner.made+1:=hi
      exact h1.bytes i (show i < m.sooner.made by omega)
theorem DkOk.append (h:DkOk K m) (n:Nm) (b:List UInt8):DkOk (K+b.length) (m.append n b).1:=by
 unfold Dk.append
 split
 ·exact h.mono (Nat.le_add_right _ _)
 ·split
  ·exact h.mono (Nat.le_add_right _ _)
  ·rename_i f hf
   split
   ·exact h.mono (Nat.le_add_right _ _)
   ·refine h.thing (Nat.le_add_right _ _) fun hs=>?_
    have h1:=hs.mono (Nat.le_add_right K b.length)
    refine ⟨h1.cut,h1.fail,h1.made,h1.pend,h1.names,fun i hi=>?_⟩
    show (if i=f then (⟨(m.sooner.files f).bytes++b,(m.sooner.files f).kept⟩:Fl) else m.sooner.files i).bytes.length≤_∧(if i=f then (⟨(m.sooner.files f).bytes++b,(m.sooner.files f).kept⟩:Fl) else m.sooner.files i).kept≤(if i=f then (⟨(m.sooner.files f).bytes++b,(m.sooner.files f).kept⟩:Fl) else m.sooner.files i).bytes.length
    by_cases e:i=f
    ·subst e
     rw [if_pos rfl]
     have:=hs.bytes i hi
     dsimp only
     rw [List.length_append]
     omega
    ·rw [if_neg e]
     exact h1.bytes i hi
theorem DkOk.sync (h:DkOk K m) (n:Nm):DkOk K (m.sync n).1:=by
 unfold Dk.sync
 split
 ·exact h
 ·split
  ·exact h
  ·rename_i f hf
   refine h.thing (Nat.le_refl _) fun hs=>⟨hs.cut,hs.fail,hs.made,hs.pend,hs.names,fun i hi=>?_⟩
   show (if i=f then (⟨(m.sooner.files f).bytes,(m.sooner.files f).bytes.length⟩:Fl) else m.sooner.files i).bytes.length≤_∧(if i=f then (⟨(m.sooner.files f).bytes,(m.sooner.files f).bytes.length⟩:Fl) else m.sooner.files i).kept≤(if i=f then (⟨(m.sooner.files f).bytes,(m.sooner.files f).bytes.length⟩:Fl) else m.sooner.files i).bytes.length
   by_cases e:i=f
   ·subst e
    rw [if_pos rfl]
    exact ⟨(hs.bytes i hi).1,Nat.le_refl _⟩
   ·rw [if_neg e]
    exact hs.bytes i hi
theorem DkOk.rename (h:DkOk K m) (n to:Nm):DkOk (K+1) (m.rename n to).1:=by
 unfold Dk.rename
 split
 ·exact h.mono (Nat.le_succ _)
 ·split
  ·exact h.mono (Nat.le_succ _)
  ·split
   ·exact h.mono (Nat.le_succ _)
   ·refine h.thing (Nat.le_succ _) fun hs=>?_
    exact (hs.nums (m':={ m.sooner with used:=wrap64 (m.sooner.used - (m.sooner.size to).1) }) hs.cut hs.fail rfl rfl rfl rfl rfl).change _
theorem DkOk.remove (h:DkOk K m) (n:Nm):DkOk (K+1) (m.remove n).1:=by
 unfold Dk.remove
 split
 ·exact h.mono (Nat.le_succ _)
 ·split
  ·exact h.mono (Nat.le_succ _)
  ·rename_i f hf
   refine h.thing (Nat.le_succ _) fun hs=>?_
   exact (hs.nums (m':={ m.sooner with used:=wrap64 (m.sooner.used - (m.sooner.files f).bytes.length) }) hs.cut hs.fail rfl rfl rfl rfl rfl).change _
theorem DkOk.keep (h:DkOk K m) (k:Nat):DkOk K (m.keep k) :=
 ⟨h.cut,h.fail,h.made,by
  show (redo (m.pend.take k) m.kept).length+0≤K
  have:=h.pend
  exact redo_short _ _ (by rw [List.length_take];omega),h.names,h.bytes⟩
theorem DkOk.syncDir (h:DkOk K m):DkOk K m.syncDir.1:=h.thing (Nat.le_refl _) fun hs=>hs.keep _
end
end Go.Proofs.YtkelafkbmnjpeaaGreat
namespace Go.Proofs.YtkelafkbmnjpeaaGreat
open Go.RowKit
end Go.Proofs.YtkelafkbmnjpeaaGreat
namespace Go.Proofs.YtkelafkbmnjpeaaGreat
open Go.RowKit Go.Maps Go.WideMaps
def DkIn (B:Nat) (w0 w:World) (d:Nat) (out:Nat→Prop) (m:Dk):Prop :=
 ∃ own G,DkAt w d own G m∧B≤d∧(∀ k,own k→B≤k)∧Below B w0 w∧B≤w.heap.size∧∀ k,out k→k < w.heap.size∧k≠d∧¬ own k
abbrev Stays (B:Nat) (out:Nat→Prop) (w w':World):Prop:=Zc (fun k=>B≤k∧¬ out k) w w'
section
variable {B d K:Nat} {w0 w w':World} {out:Nat→Prop} {m:Dk}
theorem Stays.grows (h:Grows w w'):Stays B out w w':=Zc.grows h
theorem DkIn.size (h:DkIn B w0 w d out m):B≤w.heap.size:=by obtain ⟨_,_,_,_,_,_,h,_⟩:=h;exact h
theorem DkIn.low (h:DkIn B w0 w d out m):Below B w0 w:=by obtain ⟨_,_,_,_,_,h,_⟩:=h;exact h
theorem DkIn.lt (h:DkIn B w0 w d out m) {k:Nat} (hk:out k):k < w.heap.size:=by obtain ⟨_,_,_,_,_,_,_,h⟩:=h;exact (h k hk).1
theorem DkIn.grow (h:DkIn B w0 w d out m) (hg:Grows w w'):DkIn B w0 w' d out m:=by
 obtain ⟨own,G,h1,h2,h3,h4,h5,h6⟩:=h
 exact ⟨own,G,h1.grow hg,h2,h3,h4.trans (Below.mono hg h5),Nat.le_trans h5 hg.size,fun k hk=>⟨Nat.lt_of_lt_of_le (h6 k hk).1 hg.size,(h6 k hk).2⟩⟩
theorem DkIn.more (h:DkIn B w0 w d out m) (hg:Grows w w'):DkIn B w0 w' d (fun k=>out k∨(w.heap.size≤k∧k < w'.heap.size)) m:=by
 obtain ⟨own,G,h1,h2,h3,h4,h5,h6⟩:=h
 refine ⟨own,G,h1.grow hg,h2,h3,h4.trans (Below.mono hg h5),Nat.le_trans h5 hg.size,?_⟩
 rintro k (hk | hk)
 ·exact ⟨Nat.lt_of_lt_of_le (h6 k hk).1 hg.size,(h6 k hk).2⟩
 ·exact ⟨hk.2,fun e=>by have:=h1.top.lt;omega,fun e=>by have:=h1.rest.lt k e;omega⟩
theorem DkIn.less {out':Nat→Prop} (h:DkIn B w0 w d out m) (ho:∀ k,out' k→out k):DkIn B w0 w d out' m:=by
 obtain ⟨own,G,h1,h2,h3,h4,h5,h6⟩:=h
 exact ⟨own,G,h1,h2,h3,h4,h5,fun k hk=>h6 k (ho k hk)⟩
theorem DkIn.new {x:Int} (h:DkNew w d w' (Dk.new x)) (hB:B≤w.heap.size) (hb:Below B w0 w) (hout:∀ k,out k→k < w.heap.size):DkIn B w0 w' d out (Dk.new x):=by
 obtain ⟨own,G,h1,h2,h3,h4⟩:=h
 exact ⟨own,G,h1,Nat.le_trans hB h2,fun k hk=>Nat.le_trans hB (h3 k hk),hb.trans (Below.mono h4 hB),Nat.le_trans hB h4.size,fun k hk=>⟨Nat.lt_of_lt_of_le (hout k hk) h4.size,fun e=>by have:=hout k hk;omega,fun e=>by have:=hout k hk;have:=h3 k e;omega⟩⟩
theorem DkIn.other (h:DkIn B w0 w d out m) {oth:Nat→Prop} (hs:Zc oth w w') (ho:∀ k,oth k→k < w.heap.size→out k) (hB:∀ k,oth k→B≤k):DkIn B w0 w' d out m:=by
 obtain ⟨own,G,h1,h2,h3,h4,h5,h6⟩:=h
 refine ⟨own,G,h1.spare hs fun k hk e=>?_,h2,h3,h4.trans (hs.below h5 fun k hk e=>by have:=hB k e;omega),Nat.le_trans h5 hs.size,fun k hk=>⟨Nat.lt_of_lt_of_le (h6 k hk).1 hs.size,(h6 k hk).2⟩⟩
 have:=h6 k (ho k e (h1.lt hk))
 rcases hk with hk | hk
 ·exact this.2.1 hk
 ·exact this.2.2 hk
theorem DkIn.to {f:FuncId} {args:Array Value} {v:Ending} {m':Dk} (h:DkIn B w0 w d out m) (hc:∀ own G,DkAt w d own G m→(∀ k,own k→B≤k)→(∀ k,out k→k≠d∧¬ own k)→Calls Tryz.prog f args w fun e w'=>e=v∧DkTo w d own w' m') :
 Calls Tryz.prog f args w fun e w'=>e=v∧DkIn B w0 w' d out m'∧Stays B out w w':=by
 obtain ⟨own,G,h1,h2,h3,h4,h5,h6⟩:=h
 refine (hc own G h1 h3 fun k hk=>(h6 k hk).2).mono ?_
 rintro e w' ⟨rfl,own',G',k1,k2,k3⟩
 have k2':Stays B out w w':=k2.wider fun k _ hk=>⟨hk.elim (fun e=>e ▸ h2) (h3 k),fun ho=>hk.elim (h6 k ho).2.1 (h6 k ho).2.2⟩
 refine ⟨rfl,⟨own',G',k1,h2,fun k hk=>(k3 k hk).elim (h3 k) (Nat.le_trans h5),h4.trans (k2'.below h5 fun k hk e=>by have:=e.1;omega),Nat.le_trans h5 k2'.size,fun k hk=>⟨Nat.lt_of_lt_of_le (h6 k hk).1 k2.size,(h6 k hk).2.1,fun e=>?_⟩⟩,k2'⟩
 rcases k3 k e with e | e
 ·exact (h6 k hk).2.2 e
 ·have:=(h6 k hk).1;omega
theorem DkIn.did {f:FuncId} {args:Array Value} {r:Dk×Int} (h:DkIn B w0 w d out m) (hc:∀ own G,DkAt w d own G m→(∀ k,own k→B≤k)→(∀ k,out k→k≠d∧¬ own k)→Calls Tryz.prog f args w fun e w'=>Did w d own r e w') {v:Int} {m':Dk} (h1:r.2=v) (h2:r.1=m') :
 Calls Tryz.prog f args w fun e w'=>e=.returned (.int .i64 v)∧DkIn B w0 w' d out m'∧Stays B out w w':=by
 subst h1 h2
 exact h.to hc
/-! The calls. -/
theorem Ze0 (n:Nm) (h:DkIn B w0 w d out m) (ok:DkOk K m) (hK:K≤1000000000) (hn:n.length≤1000000) {v:Int} {m':Dk} (h1:(m.create n).2=v) (h2:(m.create n).1=m'):Calls Tryz.prog 129 #[.pointer (some ⟨d,0,none⟩),.string ⟨n.toArray⟩] w fun e w'=>e=.returned (.int .i64 v)∧DkIn B w0 w' d out m'∧Stays B out w w' :=
 h.did (fun own G ha _ _=>Zm5 w n ha (ok.fit hK) hn) h1 h2
theorem Zkq (n:Nm) (h:DkIn B w0 w d out m) (ok:DkOk K m) (hK:K≤1000000000) (hn:n.length≤1000000) {v:Int} {m':Dk} (h1:(m.sync n).2=v) (h2:(m.sync n).1=m'):Calls Tryz.prog 72 #[.pointer (some ⟨d,0,none⟩),.string ⟨n.toArray⟩] w fun e w'=>e=.returned (.int .i64 v)∧DkIn B w0 w' d out m'∧Stays B out w w' :=
 h.did (fun own G ha _ _=>Zry w n ha (ok.fit hK) (by unfold maxLen;omega)) h1 h2
theorem Ze1 (n:Nm) (h:DkIn B w0 w d out m) (ok:DkOk K m) (hK:K≤1000000000) (hn:n.length≤1000000) {v:Int} {m':Dk} (h1:(m.remove n).2=v) (h2:(m.remove n).1=m'):Calls Tryz.prog 133 #[.pointer (some ⟨d,0,none⟩),.string ⟨n.toArray⟩] w fun e w'=>e=.returned (.int .i64 v)∧DkIn B w0 w' d out m'∧Stays B out w w' :=
 h.did (fun own G ha _ _=>Zm2 w n ha (ok.fit hK) hn) h1 h2
theorem Zpc (n to:Nm) (h:DkIn B w0 w d out m) (ok:DkOk K m) (hK:K≤1000000000) (hn:n.length≤1000000) (ht:to.length≤1000000) {v:Int} {m':Dk} (h1:(m.rename n to).2=v) (h2:(m.rename n to).1=m'):Calls Tryz.prog 202 #[.pointer (some ⟨d,0,none⟩),.string ⟨n.toArray⟩,.string ⟨to.toArray⟩] w fun e w'=>e=.returned (.int .i64 v)∧DkIn B w0 w' d out m'∧Stays B out w w' :=
 h.did (fun own G ha _ _=>Zm1 w n to ha (ok.fit hK) hn ht) h1 h2
theorem Znc (h:DkIn B w0 w d out m) (ok:DkOk K m) (hK:K≤1000000000) {v:Int} {m':Dk} (h1:m.syncDir.2=v) (h2:m.syncDir.1=m'):Calls Tryz.prog 203 #[.pointer (some ⟨d,0,none⟩)] w fun e w'=>e=.returned (.int .i64 v)∧DkIn B w0 w' d out m'∧Stays B out w w' :=
 h.did (fun own G ha _ _=>Zkj w ha (ok.fit hK)) h1 h2
theorem Zau (n:Nm) {A:Option Addr} {nb cb:Nat} {bs:List UInt8} (h:DkIn B w0 w d out m) (ok:DkOk K m) (hK:K≤1000000000) (hn:n.length≤1000000) (hs:Sl w A nb cb bs) (hoff:∀ ad,A=some ad→bs≠[]→ad.block < B∨out ad.block) (hnb:nb≤1000000000) {v:Int} {m':Dk} (h1:(m.append n bs).2=v) (h2:(m.append n bs).1=m') :
 Calls Tryz.prog 130 #[.pointer (some ⟨d,0,none⟩),.string ⟨n.toArray⟩,.slice A nb cb] w fun e w'=>e=.returned (.int .i64 v)∧DkIn B w0 w' d out m'∧Stays B out w w':=by
 have hd:B≤d:=by obtain ⟨_,_,_,h,_⟩:=h;exact h
 exact h.did (fun own G ha hb ho=>Zm3 w n ha (ok.fit hK) (by unfold maxLen;omega) hs (fun ad e hne=>(hoff ad e hne).elim (fun hlt=>⟨by omega,fun e=>by have:=hb _ e;omega⟩) (ho _)) hnb) h1 h2
theorem Zuk (x:Int) (h:DkIn B w0 w d out m):Calls Tryz.prog 15 #[.pointer (some ⟨d,0,none⟩),.int .i64 x] w fun e w'=>e=.returned (.tuple #[])∧DkIn B w0 w' d out (m.setFail x)∧Stays B out w w' :=
 h.to fun own G ha _ _=>(Zr3 w x ha).mono fun e w' ⟨he,h1,h2⟩=>⟨he,DkTo.same h1 h2⟩
theorem Zul (n:Nm) (x k:Int) (h:DkIn B w0 w d out m) (ok:DkOk K m) (hK:K≤1000000000) (hn:n.length≤1000000) (hx:-9223372036854775808≤x∧x≤9223372036854775807) (hk:-9223372036854775808≤k∧k≤9223372036854775807) {r:Option (List UInt8)×Int} (hr:m.read n x k=r) :
 Calls Tryz.prog 93 #[.pointer (some ⟨d,0,none⟩),.string ⟨n.toArray⟩,.int .i64 x,.int .i64 k] w fun e w'=>Zgg w r e w':=by
 subst hr
 obtain ⟨own,G,h1,_⟩:=h
 exact Zrx w n x k h1 (ok.fit hK) (by unfold maxLen;omega) hx hk
theorem Zhx (n:Nm) (h:DkIn B w0 w d out m) (hn:n.length≤1000000) {v:Int} {b:Bool} (h1:m.size n=(v,b)):Calls Tryz.prog 48 #[.pointer (some ⟨d,0,none⟩),.string ⟨n.toArray⟩] w fun e w'=>e=.returned (.tuple #[.int .i64 v,.bool b])∧w=w':=by
 obtain ⟨own,G,h2,_⟩:=h
 have:=Zl2 w h2 (n:=n) (by unfold maxLen;omega)
 rw [h1] at this
 exact this
theorem Zpd (h:DkIn B w0 w d out m) (ok:DkOk K m) (hK:K≤1000000000):Calls Tryz.prog 26 #[.pointer (some ⟨d,0,none⟩)] w fun e w' =>
 ∃ A c,e=.returned (.slice A m.names.length c)∧w'.ownsRow w.heap.size 9 1 (.slice A m.names.length c) m.names.length ((m.names.map (·.1)).map strB)∧Grows w w':=by
 obtain ⟨own,G,h2,_⟩:=h
 refine (Zrw w h2 (ok.fit hK)).mono ?_
 rintro e w' ⟨v,rfl,hr,hg⟩
 obtain ⟨A,c,rfl,_⟩:=Zp hr
 exact ⟨A,c,rfl,hr,hg⟩
end
end Go.Proofs.YtkelafkbmnjpeaaGreat
namespace Go.Proofs.YtkelafkbmnjpeaaGreat
open Go.RowKit Go.Maps Go.WideMaps
structure Well (m:Dk):Prop where
 down:m.down=false
 cut:m.cut < 0
 fail:m.fail < 0
def Dk.bump (m:Dk):Dk:={ m with done:=wrap64 (m.done+1) }
section
variable {m:Dk}
theorem Zbp {n:Nm} {f:Nat} (hf:Dir.find n m.names=some f):m.size n=(((m.files f).bytes.length:Int),true):=by
 unfold Dk.size
 rw [hf]
theorem Zpb {n:Nm} (hf:Dir.find n m.names=none):m.size n=(0,false):=by
 unfold Dk.size
 rw [hf]
end
end Go.Proofs.YtkelafkbmnjpeaaGreat
namespace Go.Proofs.YtkelafkbmnjpeaaGreat
open Go.RowKit
section
variable (m:Dk) (f:Nat) (b:List UInt8) (n to:Nm)
end
end Go.Proofs.YtkelafkbmnjpeaaGreat
namespace Go.Proofs.YtkelafkbmnjpeaaGreat
open Go.RowKit
theorem Zch {n:Nm} {x:Nm×Nat} (h:x.1≠n):∀ l:Dir,Dir.find n (Dir.ins x l)=Dir.find n l
 | []=>by
   unfold Dir.ins Dir.find
   simp [h]
 | y :: r=>by
   have ih:=Zch h r
   unfold Dir.ins
   split
   ·unfold Dir.find
    simp [h]
   ·unfold Dir.find at ih ⊢
    rw [List.find?_cons,List.find?_cons]
    split
    ·rfl
    ·exact ih
theorem Zcz {n:Nm} {f:Nat}:∀ {l:Dir},(∀ y∈l,y.1≠n)→Dir.find n (Dir.ins (n,f) l)=some f
 | [],_=>by
   unfold Dir.ins Dir.find
   simp
 | y :: r,h=>by
   have ih:=Zcz (n:=n) (f:=f) (l:=r) fun z hz=>h z (List.mem_cons_of_mem _ hz)
   have hy:(y.1==n)=false:=by rw [beq_eq_false_iff_ne];exact h y List.mem_cons_self
   unfold Dir.ins
   split
   ·unfold Dir.find
    simp
   ·unfold Dir.find at ih ⊢
    rw [List.find?_cons,hy]
    exact ih
theorem Zpa {n:Nm} {l:Dir} {y:Nm×Nat}:y∈Dir.del n l↔y∈l∧y.1≠n:=by
 unfold Dir.del
 rw [List.mem_filter]
 simp
theorem Jd {n x:Nm} (h:n≠x):∀ l:Dir,Dir.find n (Dir.del x l)=Dir.find n l
 | []=>rfl
 | y :: r=>by
   have ih:=Jd h r
   unfold Dir.del Dir.find at ih ⊢
   by_cases hy:y.1=x
   ·have h1:(y.1==x)=true:=by rw [beq_iff_eq];exact hy
    have h2:(y.1==n)=false:=by rw [beq_eq_false_iff_ne,hy];exact fun e=>h e.symm
    rw [List.filter_cons,h1,List.find?_cons,h2]
    exact ih
   ·have h1:(y.1==x)=false:=by rw [beq_eq_false_iff_ne];exact hy
    rw [List.filter_cons,h1]
    simp only [Bool.not_false,if_true]
    rw [List.find?_cons,List.find?_cons]
    split
    ·rfl
    ·exact ih
theorem Zc0 (n:Nm) (l:Dir):Dir.find n (Dir.del n l)=none:=by
 unfold Dir.find
 rw [Option.map_eq_none_iff,List.find?_eq_none]
 intro y hy
 have:=(Zpa.1 hy).2
 simpa using this
theorem Zci {n x:Nm} {f:Nat} (h:n≠x) (l:Dir):Dir.find n (Dir.put x f l)=Dir.find n l:=by
 unfold Dir.put
 rw [Zch (fun e=>h e.symm),Jd h]
theorem Za1 (n:Nm) (f:Nat) (l:Dir):Dir.find n (Dir.put n f l)=some f :=
 Zcz fun y hy=>(Zpa.1 hy).2
theorem Zhw {n:Nm} {f:Nat} {l:Dir} (h:Dir.find n l=some f):(n,f)∈l:=by
 unfold Dir.find at h
 obtain ⟨p,hp,e⟩:=Option.map_eq_some_iff.1 h
 have h1:=List.find?_some hp
 have h2:=List.mem_of_find?_eq_some hp
 have h1:p.1=n:=by simpa using h1
 subst h1;subst e
 exact h2
/-! What was synced, and one more file beside it. -/
structure KI (m:Dk) (A B:List UInt8):Prop where
 file:m.files 0=⟨A++B,A.length⟩
 kept:Dir.find [120] m.kept=some 0
 pend:∀ c∈m.pend,∃ n f,c=.made n f∧n≠[120]
 made:1≤m.made
 other:∀ n f,n≠[120]→Dir.find n m.names=some f→f≠0
section
variable {m:Dk} {A B:List UInt8}
end
end Go.Proofs.YtkelafkbmnjpeaaGreat
