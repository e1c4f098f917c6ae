/-
  Texts that the statements lean on, one behind the other.
-/
import Derived.Test.YtkelafkbmnjpeaaGreatMG09
import Derived.LoopTactic
import Derived.IntWalk
import Derived.Lib.Hide
import Derived.WalkLawsBesides
set_option linter.unusedVariables false
namespace Go.Proofs.YtkelafkbmnjpeaaGreat
open Go.RowKit Go.Maps Go.WideMaps
structure DkOk (K:Nat) (m:Dk):Prop where
 cut:-1≤m.cut∧m.cut≤9223372036854775807
 fail:-1≤m.fail∧m.fail≤9223372036854775807
 made:m.made≤K
 pend:m.kept.length+m.pend.length≤K
 names:m.names.length≤K
 bytes:∀ i,i < m.made→(m.files i).bytes.length≤K∧(m.files i).kept≤(m.files i).bytes.length
section
variable {K K':Nat} {m:Dk}
theorem DkOk.fit (h:DkOk K m) (hK:K≤1000000000):DkFit m :=
 ⟨h.cut,h.fail,Nat.le_trans h.made hK,by have:=h.pend;omega,Nat.le_trans h.names hK,by have:=h.pend;omega,fun i hi=>⟨Nat.le_trans (h.bytes i hi).1 hK,(h.bytes i hi).2⟩⟩
theorem DkOk.mono (h:DkOk K m) (hK:K≤K'):DkOk K' m :=
 ⟨h.cut,h.fail,Nat.le_trans h.made hK,Nat.le_trans h.pend hK,Nat.le_trans h.names hK,fun i hi=>⟨Nat.le_trans (h.bytes i hi).1 hK,(h.bytes i hi).2⟩⟩
theorem DkOk.nums (h:DkOk K m) {m':Dk} (hc:-1≤m'.cut∧m'.cut≤9223372036854775807) (hf:-1≤m'.fail∧m'.fail≤9223372036854775807) (h1:m'.made=m.made) (h2:m'.names=m.names) (h3:m'.kept=m.kept) (h4:m'.pend=m.pend) (h5:m'.files=m.files):DkOk K m' :=
 ⟨hc,hf,h1 ▸ h.made,by rw [h3,h4];exact h.pend,h2 ▸ h.names,fun i hi=>by rw [h5];exact h.bytes i (h1 ▸ hi)⟩
theorem Zcz {x:Int} (h:-1≤x∧x≤9223372036854775807):-1≤sooner x∧sooner x≤9223372036854775807:=by unfold sooner;split <;> omega
theorem DkOk.soon (h:DkOk K m):DkOk K m.sooner:=h.nums (Zcz h.cut) (Zcz h.fail) rfl rfl rfl rfl rfl
theorem DkOk.thing (h:DkOk K m) (hK:K≤K') {does:Dk→Dk} (hd:DkOk K m.sooner→DkOk K' (does m.sooner)):DkOk K' (m.thing does).1:=by
 have hs:=h.soon
 unfold Dk.thing
 split
 ·exact h.mono hK
 ·split
  ·exact (hs.mono hK).nums (by simp) hs.fail rfl rfl rfl rfl rfl
  ·split
   ·exact (hs.mono hK).nums hs.cut (by simp) rfl rfl rfl rfl rfl
   ·have h2:=hd hs
    exact h2.nums h2.cut h2.fail rfl rfl rfl rfl rfl
theorem DkOk.change (h:DkOk K m) (c:Ch):DkOk (K+1) (m.change c) :=
 ⟨h.cut,h.fail,Nat.le_succ_of_le h.made,by show m.kept.length+(m.pend++[c]).length≤_;rw [List.length_append];have:=h.pend;simp only [List.length_singleton];omega,
  by show (c.on m.names).length≤_;have:=Zep c m.names;have:=h.names;omega,fun i hi=>⟨Nat.le_succ_of_le (h.bytes i hi).1,(h.bytes i hi).2⟩⟩
theorem DkOk.create (h:DkOk K m) (n:Nm):DkOk (K+1) (m.create n).1:=by
 unfold Dk.create
 split
 ·exact h.mono (Nat.le_succ _)
 ·split
  ·exact h.mono (Nat.le_succ _)
  ·split
   ·exact h.mono (Nat.le_succ _)
   ·split
    ·exact h.mono (Nat.le_succ _)
    ·refine h.thing (Nat.le_succ _) fun hs=>?_
     have h1:=hs.change (.made n m.sooner.made)
     refine ⟨h1.cut,h1.fail,Nat.succ_le_succ hs.made,h1.pend,h1.names,fun i hi=>?_⟩
     show (if i=m.sooner.made then (⟨[],0⟩:Fl) else m.sooner.files i).bytes.length≤_∧(if i=m.sooner.made then (⟨[],0⟩:Fl) else m.sooner.files i).kept≤(if i=m.sooner.made then (⟨[],0⟩:Fl) else m.sooner.files i).bytes.length
     split
     ·exact ⟨Nat.zero_le _,Nat.le_refl _⟩
     ·have:i < m.sooner.made+1:=hi
      exact h1.bytes i (show i < m.sooner.made by omega)
theorem DkOk.append (h:DkOk K m) (n:Nm) (b:List UInt8):DkOk (K+b.length) (m.append n b).1:=by
 unfold Dk.append
 split
 ·exact h.mono (Nat.le_add_right _ _)
 ·split
  ·exact h.mono (Nat.le_add_right _ _)
  ·rename_i f hf
   split
   ·exact h.mono (Nat.le_add_right _ _)
   ·refine h.thing (Nat.le_add_right _ _) fun hs=>?_
    have h1:=hs.mono (Nat.le_add_right K b.length)
    refine ⟨h1.cut,h1.fail,h1.made,h1.pend,h1.names,fun i hi=>?_⟩
    show (if i=f then (⟨(m.sooner.files f).bytes++b,(m.sooner.files f).kept⟩:Fl) else m.sooner.files i).bytes.length≤_∧(if i=f then (⟨(m.sooner.files f).bytes++b,(m.sooner.files f).kept⟩:Fl) else m.sooner.files i).kept≤(if i=f then (⟨(m.sooner.files f).bytes++b,(m.sooner.files f).kept⟩:Fl) else m.sooner.files i).bytes.length
    by_cases e:i=f
    ·subst e
     rw [if_pos rfl]
     have:=hs.bytes i hi
     dsimp only
     rw [List.length_append]
     omega
    ·rw [if_neg e]
     exact h1.bytes i hi
theorem DkOk.sync (h:DkOk K m) (n:Nm):DkOk K (m.sync n).1:=by
 unfold Dk.sync
 split
 ·exact h
 ·split
  ·exact h
  ·rename_i f hf
   refine h.thing (Nat.le_refl _) fun hs=>⟨hs.cut,hs.fail,hs.made,hs.pend,hs.names,fun i hi=>?_⟩
   show (if i=f then (⟨(m.sooner.files f).bytes,(m.sooner.files f).bytes.length⟩:Fl) else m.sooner.files i).bytes.length≤_∧(if i=f then (⟨(m.sooner.files f).bytes,(m.sooner.files f).bytes.length⟩:Fl) else m.sooner.files i).kept≤(if i=f then (⟨(m.sooner.files f).bytes,(m.sooner.files f).bytes.length⟩:Fl) else m.sooner.files i).bytes.length
   by_cases e:i=f
   ·subst e
    rw [if_pos rfl]
    exact ⟨(hs.bytes i hi).1,Nat.le_refl _⟩
   ·rw [if_neg e]
    exact hs.bytes i hi
theorem DkOk.rename (h:DkOk K m) (n to:Nm):DkOk (K+1) (m.rename n to).1:=by
 unfold Dk.rename
 split
 ·exact h.mono (Nat.le_succ _)
 ·split
  ·exact h.mono (Nat.le_succ _)
  ·split
   ·exact h.mono (Nat.le_succ _)
   ·refine h.thing (Nat.le_succ _) fun hs=>?_
    exact (hs.nums (m':={ m.sooner with used:=wrap64 (m.sooner.used - (m.sooner.size to).1) }) hs.cut hs.fail rfl rfl rfl rfl rfl).change _
theorem DkOk.remove (h:DkOk K m) (n:Nm):DkOk (K+1) (m.remove n).1:=by
 unfold Dk.remove
 split
 ·exact h.mono (Nat.le_succ _)
 ·split
  ·exact h.mono (Nat.le_succ _)
  ·rename_i f hf
   refine h.thing (Nat.le_succ _) fun hs=>?_
   exact (hs.nums (m':={ m.sooner with used:=wrap64 (m.sooner.used - (m.sooner.files f).bytes.length) }) hs.cut hs.fail rfl rfl rfl rfl rfl).change _
theorem DkOk.keep (h:DkOk K m) (k:Nat):DkOk K (m.keep k) :=
 ⟨h.cut,h.fail,h.made,by
  show (redo (m.pend.take k) m.kept).length+0≤K
  have:=h.pend
  exact redo_short _ _ (by rw [List.length_take];omega),h.names,h.bytes⟩
theorem DkOk.syncDir (h:DkOk K m):DkOk K m.syncDir.1:=h.thing (Nat.le_refl _) fun hs=>hs.keep _
end
end Go.Proofs.YtkelafkbmnjpeaaGreat
namespace Go.Proofs.YtkelafkbmnjpeaaGreat
open Go.RowKit
end Go.Proofs.YtkelafkbmnjpeaaGreat
namespace Go.Proofs.YtkelafkbmnjpeaaGreat
open Go.RowKit Go.Maps Go.WideMaps
def DkIn (B:Nat) (w0 w:World) (d:Nat) (out:Nat→Prop) (m:Dk):Prop :=
 ∃ own G,DkAt w d own G m∧B≤d∧(∀ k,own k→B≤k)∧Below B w0 w∧B≤w.heap.size∧∀ k,out k→k < w.heap.size∧k≠d∧¬ own k
abbrev Stays (B:Nat) (out:Nat→Prop) (w w':World):Prop:=Zc (fun k=>B≤k∧¬ out k) w w'
section
variable {B d K:Nat} {w0 w w':World} {out:Nat→Prop} {m:Dk}
theorem Stays.grows (h:Grows w w'):Stays B out w w':=Zc.grows h
theorem DkIn.size (h:DkIn B w0 w d out m):B≤w.heap.size:=by obtain ⟨_,_,_,_,_,_,h,_⟩:=h;exact h
theorem DkIn.low (h:DkIn B w0 w d out m):Below B w0 w:=by obtain ⟨_,_,_,_,_,h,_⟩:=h;exact h
theorem DkIn.lt (h:DkIn B w0 w d out m) {k:Nat} (hk:out k):k < w.heap.size:=by obtain ⟨_,_,_,_,_,_,_,h⟩:=h;exact (h k hk).1
theorem DkIn.grow (h:DkIn B w0 w d out m) (hg:Grows w w'):DkIn B w0 w' d out m:=by
 obtain ⟨own,G,h1,h2,h3,h4,h5,h6⟩:=h
 exact ⟨own,G,h1.grow hg,h2,h3,h4.trans (Below.mono hg h5),Nat.le_trans h5 hg.size,fun k hk=>⟨Nat.lt_of_lt_of_le (h6 k hk).1 hg.size,(h6 k hk).2⟩⟩
theorem DkIn.more (h:DkIn B w0 w d out m) (hg:Grows w w'):DkIn B w0 w' d (fun k=>out k∨(w.heap.size≤k∧k < w'.heap.size)) m:=by
 obtain ⟨own,G,h1,h2,h3,h4,h5,h6⟩:=h
 refine ⟨own,G,h1.grow hg,h2,h3,h4.trans (Below.mono hg h5),Nat.le_trans h5 hg.size,?_⟩
 rintro k (hk | hk)
 ·exact ⟨Nat.lt_of_lt_of_le (h6 k hk).1 hg.size,(h6 k hk).2⟩
 ·exact ⟨hk.2,fun e=>by have:=h1.top.lt;omega,fun e=>by have:=h1.rest.lt k e;omega⟩
theorem DkIn.less {out':Nat→Prop} (h:DkIn B w0 w d out m) (ho:∀ k,out' k→out k):DkIn B w0 w d out' m:=by
 obtain ⟨own,G,h1,h2,h3,h4,h5,h6⟩:=h
 exact ⟨own,G,h1,h2,h3,h4,h5,fun k hk=>h6 k (ho k hk)⟩
theorem DkIn.new {x:Int} (h:DkNew w d w' (Dk.new x)) (hB:B≤w.heap.size) (hb:Below B w0 w) (hout:∀ k,out k→k < w.heap.size):DkIn B w0 w' d out (Dk.new x):=by
 obtain ⟨own,G,h1,h2,h3,h4⟩:=h
 exact ⟨own,G,h1,Nat.le_trans hB h2,fun k hk=>Nat.le_trans hB (h3 k hk),hb.trans (Below.mono h4 hB),Nat.le_trans hB h4.size,fun k hk=>⟨Nat.lt_of_lt_of_le (hout k hk) h4.size,fun e=>by have:=hout k hk;omega,fun e=>by have:=hout k hk;have:=h3 k e;omega⟩⟩
theorem DkIn.other (h:DkIn B w0 w d out m) {oth:Nat→Prop} (hs:Zc oth w w') (ho:∀ k,oth k→k < w.heap.size→out k) (hB:∀ k,oth k→B≤k):DkIn B w0 w' d out m:=by
 obtain ⟨own,G,h1,h2,h3,h4,h5,h6⟩:=h
 refine ⟨own,G,h1.spare hs fun k hk e=>?_,h2,h3,h4.trans (hs.below h5 fun k hk e=>by have:=hB k e;omega),Nat.le_trans h5 hs.size,fun k hk=>⟨Nat.lt_of_lt_of_le (h6 k hk).1 hs.size,(h6 k hk).2⟩⟩
 have:=h6 k (ho k e (h1.lt hk))
 rcases hk with hk | hk
 ·exact this.2.1 hk
 ·exact this.2.2 hk
theorem DkIn.to {f:FuncId} {args:Array Value} {v:Ending} {m':Dk} (h:DkIn B w0 w d out m) (hc:∀ own G,DkAt w d own G m→(∀ k,own k→B≤k)→(∀ k,out k→k≠d∧¬ own k)→Calls Tryz.prog f args w fun e w'=>e=v∧DkTo w d own w' m') :
 Calls Tryz.prog f args w fun e w'=>e=v∧DkIn B w0 w' d out m'∧Stays B out w w':=by
 obtain ⟨own,G,h1,h2,h3,h4,h5,h6⟩:=h
 refine (hc own G h1 h3 fun k hk=>(h6 k hk).2).mono ?_
 rintro e w' ⟨rfl,own',G',k1,k2,k3⟩
 have k2':Stays B out w w':=k2.wider fun k _ hk=>⟨hk.elim (fun e=>e ▸ h2) (h3 k),fun ho=>hk.elim (h6 k ho).2.1 (h6 k ho).2.2⟩
 refine ⟨rfl,⟨own',G',k1,h2,fun k hk=>(k3 k hk).elim (h3 k) (Nat.le_trans h5),h4.trans (k2'.below h5 fun k hk e=>by have:=e.1;omega),Nat.le_trans h5 k2'.size,fun k hk=>⟨Nat.lt_of_lt_of_le (h6 k hk).1 k2.size,(h6 k hk).2.1,fun e=>?_⟩⟩,k2'⟩
 rcases k3 k e with e | e
 ·exact (h6 k hk).2.2 e
 ·have:=(h6 k hk).1;omega
theorem DkIn.did {f:FuncId} {args:Array Value} {r:Dk×Int} (h:DkIn B w0 w d out m) (hc:∀ own G,DkAt w d own G m→(∀ k,own k→B≤k)→(∀ k,out k→k≠d∧¬ own k)→Calls Tryz.prog f args w fun e w'=>Did w d own r e w') {v:Int} {m':Dk} (h1:r.2=v) (h2:r.1=m') :
 Calls Tryz.prog f args w fun e w'=>e=.returned (.int .i64 v)∧DkIn B w0 w' d out m'∧Stays B out w w':=by
 subst h1 h2
 exact h.to hc
/-! The calls. -/
theorem Zfk (n:Nm) (h:DkIn B w0 w d out m) (ok:DkOk K m) (hK:K≤1000000000) (hn:n.length≤1000000) {v:Int} {m':Dk} (h1:(m.create n).2=v) (h2:(m.create n).1=m'):Calls Tryz.prog 129 #[.pointer (some ⟨d,0,none⟩),.string ⟨n.toArray⟩] w fun e w'=>e=.returned (.int .i64 v)∧DkIn B w0 w' d out m'∧Stays B out w w' :=
 h.did (fun own G ha _ _=>Zng w n ha (ok.fit hK) hn) h1 h2
theorem Zkw (n:Nm) (h:DkIn B w0 w d out m) (ok:DkOk K m) (hK:K≤1000000000) (hn:n.length≤1000000) {v:Int} {m':Dk} (h1:(m.sync n).2=v) (h2:(m.sync n).1=m'):Calls Tryz.prog 72 #[.pointer (some ⟨d,0,none⟩),.string ⟨n.toArray⟩] w fun e w'=>e=.returned (.int .i64 v)∧DkIn B w0 w' d out m'∧Stays B out w w' :=
 h.did (fun own G ha _ _=>Zsj w n ha (ok.fit hK) (by unfold maxLen;omega)) h1 h2
theorem Zfl (n:Nm) (h:DkIn B w0 w d out m) (ok:DkOk K m) (hK:K≤1000000000) (hn:n.length≤1000000) {v:Int} {m':Dk} (h1:(m.remove n).2=v) (h2:(m.remove n).1=m'):Calls Tryz.prog 133 #[.pointer (some ⟨d,0,none⟩),.string ⟨n.toArray⟩] w fun e w'=>e=.returned (.int .i64 v)∧DkIn B w0 w' d out m'∧Stays B out w w' :=
 h.did (fun own G ha _ _=>Znd w n ha (ok.fit hK) hn) h1 h2
theorem Zps (n to:Nm) (h:DkIn B w0 w d out m) (ok:DkOk K m) (hK:K≤1000000000) (hn:n.length≤1000000) (ht:to.length≤1000000) {v:Int} {m':Dk} (h1:(m.rename n to).2=v) (h2:(m.rename n to).1=m'):Calls Tryz.prog 202 #[.pointer (some ⟨d,0,none⟩),.string ⟨n.toArray⟩,.string ⟨to.toArray⟩] w fun e w'=>e=.returned (.int .i64 v)∧DkIn B w0 w' d out m'∧Stays B out w w' :=
 h.did (fun own G ha _ _=>Znc w n to ha (ok.fit hK) hn ht) h1 h2
theorem Znm (h:DkIn B w0 w d out m) (ok:DkOk K m) (hK:K≤1000000000) {v:Int} {m':Dk} (h1:m.syncDir.2=v) (h2:m.syncDir.1=m'):Calls Tryz.prog 203 #[.pointer (some ⟨d,0,none⟩)] w fun e w'=>e=.returned (.int .i64 v)∧DkIn B w0 w' d out m'∧Stays B out w w' :=
 h.did (fun own G ha _ _=>Zkp w ha (ok.fit hK)) h1 h2
theorem Zat (n:Nm) {A:Option Addr} {nb cb:Nat} {bs:List UInt8} (h:DkIn B w0 w d out m) (ok:DkOk K m) (hK:K≤1000000000) (hn:n.length≤1000000) (hs:Sl w A nb cb bs) (hoff:∀ ad,A=some ad→bs≠[]→ad.block < B∨out ad.block) (hnb:nb≤1000000000) {v:Int} {m':Dk} (h1:(m.append n bs).2=v) (h2:(m.append n bs).1=m') :
 Calls Tryz.prog 130 #[.pointer (some ⟨d,0,none⟩),.string ⟨n.toArray⟩,.slice A nb cb] w fun e w'=>e=.returned (.int .i64 v)∧DkIn B w0 w' d out m'∧Stays B out w w':=by
 have hd:B≤d:=by obtain ⟨_,_,_,h,_⟩:=h;exact h
 exact h.did (fun own G ha hb ho=>Zne w n ha (ok.fit hK) (by unfold maxLen;omega) hs (fun ad e hne=>(hoff ad e hne).elim (fun hlt=>⟨by omega,fun e=>by have:=hb _ e;omega⟩) (ho _)) hnb) h1 h2
theorem Zu9 (x:Int) (h:DkIn B w0 w d out m):Calls Tryz.prog 15 #[.pointer (some ⟨d,0,none⟩),.int .i64 x] w fun e w'=>e=.returned (.tuple #[])∧DkIn B w0 w' d out (m.setFail x)∧Stays B out w w' :=
 h.to fun own G ha _ _=>(Zsn w x ha).mono fun e w' ⟨he,h1,h2⟩=>⟨he,DkTo.same h1 h2⟩
theorem Zva (dirs:Int) {l:List Int} {A:Option Addr} {n c:Nat} (h:DkIn B w0 w d out m) (ok:DkOk K m) (hK:K≤1000000000) (hI:Ints w A n c l) (hl:∀ x∈l,-9223372036854775808≤x∧x≤9223372036854775807) (hoff:∀ ad,A=some ad→l≠[]→ad.block < B∨out ad.block) :
 Calls Tryz.prog 19 #[.pointer (some ⟨d,0,none⟩),.int .i64 dirs,.slice A n c] w fun e w'=>e=.returned (.tuple #[])∧DkIn B w0 w' d out (m.boot dirs l)∧Stays B out w w':=by
 have hd:B≤d:=by obtain ⟨_,_,_,h,_⟩:=h;exact h
 exact h.to fun own G ha hb ho=>Zse w dirs ha (ok.fit hK) hI hl (fun ad e hne=>(hoff ad e hne).elim (fun hlt=>⟨by omega,fun e=>by have:=hb _ e;omega⟩) (ho _))
theorem Zvb (n:Nm) (x k:Int) (h:DkIn B w0 w d out m) (ok:DkOk K m) (hK:K≤1000000000) (hn:n.length≤1000000) (hx:-9223372036854775808≤x∧x≤9223372036854775807) (hk:-9223372036854775808≤k∧k≤9223372036854775807) {r:Option (List UInt8)×Int} (hr:m.read n x k=r) :
 Calls Tryz.prog 93 #[.pointer (some ⟨d,0,none⟩),.string ⟨n.toArray⟩,.int .i64 x,.int .i64 k] w fun e w'=>Zgw w r e w':=by
 subst hr
 obtain ⟨own,G,h1,_⟩:=h
 exact Zsi w n x k h1 (ok.fit hK) (by unfold maxLen;omega) hx hk
theorem Zh8 (n:Nm) (h:DkIn B w0 w d out m) (hn:n.length≤1000000) {v:Int} {b:Bool} (h1:m.size n=(v,b)):Calls Tryz.prog 48 #[.pointer (some ⟨d,0,none⟩),.string ⟨n.toArray⟩] w fun e w'=>e=.returned (.tuple #[.int .i64 v,.bool b])∧w=w':=by
 obtain ⟨own,G,h2,_⟩:=h
 have:=Zmb w h2 (n:=n) (by unfold maxLen;omega)
 rw [h1] at this
 exact this
theorem Zkx (h:DkIn B w0 w d out m) (ok:DkOk K m) (hK:K≤1000000000):Calls Tryz.prog 26 #[.pointer (some ⟨d,0,none⟩)] w fun e w' =>
 ∃ A c,e=.returned (.slice A m.names.length c)∧w'.ownsRow w.heap.size 9 1 (.slice A m.names.length c) m.names.length ((m.names.map (·.1)).map strB)∧Grows w w':=by
 obtain ⟨own,G,h2,_⟩:=h
 refine (Zsh w h2 (ok.fit hK)).mono ?_
 rintro e w' ⟨v,rfl,hr,hg⟩
 obtain ⟨A,c,rfl,_⟩:=Zl hr
 exact ⟨A,c,rfl,hr,hg⟩
end
end Go.Proofs.YtkelafkbmnjpeaaGreat
namespace Go.Proofs.YtkelafkbmnjpeaaGreat
open Go.RowKit Go.Maps Go.WideMaps
structure Well (m:Dk):Prop where
 down:m.down=false
 cut:m.cut < 0
 fail:m.fail < 0
def Dk.bump (m:Dk):Dk:={ m with done:=wrap64 (m.done+1) }
section
variable {m:Dk}
theorem Well.soon (h:Well m):m.sooner=m:=by
 have h1:=h.cut
 have h2:=h.fail
 unfold Dk.sooner sooner
 rw [if_neg (by omega),if_neg (by omega)]
theorem Well.thing (h:Well m) (does:Dk→Dk):m.thing does=((does m).bump,0):=by
 have h1:=h.cut
 have h2:=h.fail
 unfold Dk.thing
 rw [if_neg (by rw [h.down];decide),if_neg (by omega),if_neg (by omega),h.soon]
 rfl
theorem Well.remove (h:Well m) {n:Nm} {f:Nat} (hf:Dir.find n m.names=some f):m.remove n=((m.doRemove f n).bump,0):=by
 unfold Dk.remove
 rw [if_neg (by rw [h.down];decide),hf]
 dsimp only
 rw [h.thing]
theorem Zbq {n:Nm} {f:Nat} (hf:Dir.find n m.names=some f):m.size n=(((m.files f).bytes.length:Int),true):=by
 unfold Dk.size
 rw [hf]
theorem Zpr {n:Nm} (hf:Dir.find n m.names=none):m.size n=(0,false):=by
 unfold Dk.size
 rw [hf]
end
end Go.Proofs.YtkelafkbmnjpeaaGreat
namespace Go.Proofs.YtkelafkbmnjpeaaGreat
open Go.RowKit
section
variable (m:Dk) (f:Nat) (b:List UInt8) (n to:Nm)
end
end Go.Proofs.YtkelafkbmnjpeaaGreat
namespace Go.Proofs.YtkelafkbmnjpeaaGreat
open Go.RowKit
theorem Zcl {n:Nm} {x:Nm×Nat} (h:x.1≠n):∀ l:Dir,Dir.find n (Dir.ins x l)=Dir.find n l
 | []=>by
   unfold Dir.ins Dir.find
   simp [h]
 | y :: r=>by
   have ih:=Zcl h r
   unfold Dir.ins
   split
   ·unfold Dir.find
    simp [h]
   ·unfold Dir.find at ih ⊢
    rw [List.find?_cons,List.find?_cons]
    split
    ·rfl
    ·exact ih
theorem Zc7 {n:Nm} {f:Nat}:∀ {l:Dir},(∀ y∈l,y.1≠n)→Dir.find n (Dir.ins (n,f) l)=some f
 | [],_=>by
   unfold Dir.ins Dir.find
   simp
 | y :: r,h=>by
   have ih:=Zc7 (n:=n) (f:=f) (l:=r) fun z hz=>h z (List.mem_cons_of_mem _ hz)
   have hy:(y.1==n)=false:=by rw [beq_eq_false_iff_ne];exact h y List.mem_cons_self
   unfold Dir.ins
   split
   ·unfold Dir.find
    simp
   ·unfold Dir.find at ih ⊢
    rw [List.find?_cons,hy]
    exact ih
theorem Zpq {n:Nm} {l:Dir} {y:Nm×Nat}:y∈Dir.del n l↔y∈l∧y.1≠n:=by
 unfold Dir.del
 rw [List.mem_filter]
 simp
theorem Jb {n x:Nm} (h:n≠x):∀ l:Dir,Dir.find n (Dir.del x l)=Dir.find n l
 | []=>rfl
 | y :: r=>by
   have ih:=Jb h r
   unfold Dir.del Dir.find at ih ⊢
   by_cases hy:y.1=x
   ·have h1:(y.1==x)=true:=by rw [beq_iff_eq];exact hy
    have h2:(y.1==n)=false:=by rw [beq_eq_false_iff_ne,hy];exact fun e=>h e.symm
    rw [List.filter_cons,h1,List.find?_cons,h2]
    exact ih
   ·have h1:(y.1==x)=false:=by rw [beq_eq_false_iff_ne];exact hy
    rw [List.filter_cons,h1]
    simp only [Bool.not_false,if_true]
    rw [List.find?_cons,List.find?_cons]
    split
    ·rfl
    ·exact ih
theorem Zc8 (n:Nm) (l:Dir):Dir.find n (Dir.del n l)=none:=by
 unfold Dir.find
 rw [Option.map_eq_none_iff,List.find?_eq_none]
 intro y hy
 have:=(Zpq.1 hy).2
 simpa using this
theorem Zcm {n x:Nm} {f:Nat} (h:n≠x) (l:Dir):Dir.find n (Dir.put x f l)=Dir.find n l:=by
 unfold Dir.put
 rw [Zcl (fun e=>h e.symm),Jb h]
theorem Za0 (n:Nm) (f:Nat) (l:Dir):Dir.find n (Dir.put n f l)=some f :=
 Zc7 fun y hy=>(Zpq.1 hy).2
theorem Zes {n:Nm} {f:Nat} {l:Dir} (h:Dir.find n l=some f):(n,f)∈l:=by
 unfold Dir.find at h
 obtain ⟨p,hp,e⟩:=Option.map_eq_some_iff.1 h
 have h1:=List.find?_some hp
 have h2:=List.mem_of_find?_eq_some hp
 have h1:p.1=n:=by simpa using h1
 subst h1;subst e
 exact h2
/-! What was synced, and one more file beside it. -/
structure KI (m:Dk) (A B:List UInt8):Prop where
 file:m.files 0=⟨A++B,A.length⟩
 kept:Dir.find [120] m.kept=some 0
 pend:∀ c∈m.pend,∃ n f,c=.made n f∧n≠[120]
 made:1≤m.made
 other:∀ n f,n≠[120]→Dir.find n m.names=some f→f≠0
section
variable {m:Dk} {A B:List UInt8}
end
end Go.Proofs.YtkelafkbmnjpeaaGreat
namespace Go.Proofs.YtkelafkbmnjpeaaGreat
abbrev Lc:=Int×Int×Int
structure Rc where
 kind:Int
 key:List UInt8
 id:Int
 no:Int
 size:Int
 locs:List Lc
 b:List UInt8
 deriving DecidableEq
def Rc.none:Rc:=⟨0,[],0,0,0,[],[]⟩
def LocOk (l:Lc):Prop:=(0≤l.1∧l.1≤99999999)∧(0≤l.2.1∧l.2.1≤1073741824)∧(1≤l.2.2∧l.2.2≤4096)
instance (l:Lc):Decidable (LocOk l):=by unfold LocOk;infer_instance
def sumN:List Lc→Int
 | []=>0
 | l :: ls=>l.2.2+sumN ls
def KeyOk (k:List UInt8):Prop:=1≤k.length∧k.length≤64
instance (k:List UInt8):Decidable (KeyOk k):=by unfold KeyOk;infer_instance
def IdOk (i:Int):Prop:=0≤i∧i≤1099511627776
instance (i:Int):Decidable (IdOk i):=by unfold IdOk;infer_instance
def Zbs (ls:List Lc) (size:Int):Prop:=ls.length≤512∧(∀ l∈ls,LocOk l)∧sumN ls=size
instance (ls:List Lc) (size:Int):Decidable (Zbs ls size):=by unfold Zbs;infer_instance
def Bare (r:Rc):Prop:=r.id=0∧r.no=0∧r.size=0∧r.locs.length=0
def Zal (r:Rc):Prop:=r.key.length < 1∧r.size=0∧r.locs.length=0∧IdOk r.id∧(0≤r.no∧r.no≤511)∧1≤r.b.length∧r.b.length≤4096
def Zcn (r:Rc):Prop:=r.no=0∧r.b.length=0∧KeyOk r.key∧IdOk r.id∧(1≤r.size∧r.size≤65536)∧Zbs r.locs r.size
def Jc (r:Rc):Prop:=Bare r∧KeyOk r.key∧r.b.length≤4096
def Zco (r:Rc):Prop:=Bare r∧KeyOk r.key∧r.b.length=0
def Zv (r:Rc):Prop:=(r.kind=1∧Zal r)∨(r.kind=2∧Zcn r)∨(r.kind=3∧Jc r)∨(r.kind=4∧Zco r)
instance (r:Rc):Decidable (Zv r):=by unfold Zv Zal Zcn Jc Zco Bare;infer_instance
def byteI (n:Int):UInt8:=UInt8.ofNat (n % 256).toNat
theorem Yw (n:Int):((byteI n).toNat:Int)=n % 256:=by
 unfold byteI
 rw [UInt8.toNat_ofNat']
 omega
def numB (n:Int):Nat→List UInt8
 | 0=>[]
 | k+1=>byteI (n / 256 ^ k) :: numB n k
theorem Zw (n:Int):∀ k,(numB n k).length=k
 | 0=>rfl
 | k+1=>by rw [numB,List.length_cons,Zw n k]
def valB (bs:List UInt8):Int:=bs.foldl (fun (n:Int) c=>256*n+(c.toNat:Int)) 0
theorem Zpw (bs:List UInt8) (c:UInt8):valB (bs++[c])=256*valB bs+(c.toNat:Int):=by
 unfold valB
 rw [List.foldl_append]
 rfl
theorem Zfm (c:UInt8) (bs:List UInt8):valB (c :: bs)=(c.toNat:Int)*256 ^ bs.length+valB bs:=by
 have key:∀ (bs:List UInt8) (n:Int),bs.foldl (fun (n:Int) c=>256*n+(c.toNat:Int)) n=n*256 ^ bs.length+valB bs:=by
  intro bs
  induction bs with
  | nil=>intro n;simp [valB]
  | cons d bs ih =>
    intro n
    unfold valB
    rw [List.foldl_cons,List.foldl_cons,ih,ih (256*0+_),List.length_cons,Int.pow_succ]
    generalize (256:Int) ^ bs.length=p
    rw [Int.add_mul,Int.mul_zero,Int.zero_add,Int.add_assoc]
    congr 1
    rw [Int.mul_comm 256 n,Int.mul_assoc,Int.mul_comm 256 p]
 unfold valB
 rw [List.foldl_cons,key,Int.mul_zero,Int.zero_add]
 rfl
theorem J0 (bs:List UInt8):0≤valB bs∧valB bs < 256 ^ bs.length:=by
 induction bs with
 | nil=>exact ⟨by decide,by decide⟩
 | cons c bs ih =>
   rw [Zfm,List.length_cons,Int.pow_succ]
   have hc:(c.toNat:Int)≤255:=by have:=c.toNat_lt;omega
   obtain ⟨h1,h2⟩:=ih
   have hp:(0:Int) < 256 ^ bs.length:=Int.pow_pos (by decide)
   generalize (256:Int) ^ bs.length=p at *
   have h3:(c.toNat:Int)*p≤255*p:=Int.mul_le_mul_of_nonneg_right hc (by omega)
   have h4:0≤(c.toNat:Int)*p:=Int.mul_nonneg (by omega) (by omega)
   omega
theorem Zjn (n:Int) (h0:0≤n):∀ k,valB (numB n k)=n % 256 ^ k
 | 0=>by simp [numB,valB,Int.emod_one]
 | k+1=>by
   rw [numB,Zfm,Zw,Zjn n h0 k,Yw,Int.pow_succ]
   have hp:(0:Int) < 256 ^ k:=Int.pow_pos (by decide)
   generalize (256:Int) ^ k=p at *
   have h1:=Int.emod_add_mul_ediv n p
   have h2:=Int.emod_add_mul_ediv (n / p) 256
   have h3:n / p / 256=n / (p*256):=by rw [Int.ediv_ediv_of_nonneg (by omega)]
   have h4:=Int.emod_add_mul_ediv n (p*256)
   rw [←h3] at h4
   generalize n / p / 256=q at *
   generalize n / p=m at *
   generalize m % 256=x at *
   have h5:p*m=p*x+p*(256*q):=by rw [←Int.mul_add,h2]
   have h6:p*256*q=p*(256*q):=by rw [Int.mul_assoc]
   rw [h6] at h4
   rw [Int.mul_comm x p]
   generalize p*(256*q)=z at *
   generalize p*x=y at *
   generalize n % (p*256)=u at *
   generalize n % p=v at *
   generalize p*m=t at *
   omega
theorem Zk0 (n:Int) (k:Nat) (h0:0≤n) (h:n < 256 ^ k):valB (numB n k)=n:=by
 rw [Zjn n h0 k,Int.emod_eq_of_lt h0 h]
theorem numB_valB:∀ (bs:List UInt8) (q:Int),numB (q*256 ^ bs.length+valB bs) bs.length=bs
 | [],_=>rfl
 | c :: bs,q=>by
   rw [List.length_cons,numB,Zfm,Int.pow_succ]
   have hb:=J0 bs
   have hp:(0:Int) < 256 ^ bs.length:=Int.pow_pos (by decide)
   have hc:=c.toNat_lt
   have e:q*(256 ^ bs.length*256)+((c.toNat:Int)*256 ^ bs.length+valB bs)=(q*256+(c.toNat:Int))*256 ^ bs.length+valB bs:=by
    generalize (256:Int) ^ bs.length=p
    rw [Int.add_mul,Int.mul_assoc,Int.mul_comm 256 p]
    omega
   rw [e,numB_valB bs (q*256+(c.toNat:Int))]
   congr 1
   have h1:((q*256+(c.toNat:Int))*256 ^ bs.length+valB bs) / 256 ^ bs.length=q*256+(c.toNat:Int):=by
    rw [Int.add_comm,Int.add_mul_ediv_right _ _ (by omega),Int.ediv_eq_zero_of_lt hb.1 hb.2,Int.zero_add]
   rw [h1]
   unfold byteI
   apply UInt8.toNat_inj.1
   rw [UInt8.toNat_ofNat']
   omega
theorem Zcd (bs:List UInt8):numB (valB bs) bs.length=bs:=by
 have:=numB_valB bs 0
 rwa [Int.zero_mul,Int.zero_add] at this
def locB (l:Lc):List UInt8:=numB l.1 4++(numB l.2.1 4++numB l.2.2 2)
def locsB:List Lc→List UInt8
 | []=>[]
 | l :: ls=>locB l++locsB ls
theorem Zk1 (l:Lc):(locB l).length=10:=by simp [locB,Zw]
theorem locsB_length:∀ ls,(locsB ls).length=10*ls.length
 | []=>rfl
 | l :: ls=>by rw [locsB,List.length_append,Zk1,locsB_length ls,List.length_cons];omega
theorem locsB_append:∀ a b,locsB (a++b)=locsB a++locsB b
 | [],_=>rfl
 | l :: a,b=>by rw [List.cons_append,locsB,locsB,locsB_append a b,List.append_assoc]
def keyP (k:List UInt8):List UInt8:=byteI k.length :: k
def bodyR (r:Rc):List UInt8 :=
 if r.kind=1 then numB r.id 6++(numB r.no 2++r.b)
 else if r.kind=2 then keyP r.key++(numB r.id 6++(numB r.size 3++(numB r.locs.length 2++locsB r.locs)))
 else if r.kind=3 then keyP r.key++r.b
 else r.key
def putR (r:Rc):List UInt8:=if Zv r then byteI r.kind :: bodyR r else []
abbrev Src:=List UInt8×Bool
def takeS (s:Src) (n:Int):List UInt8×Src:=if s.2=true∨(s.1.length:Int) < n then ([],(s.1,true)) else (s.1.take n.toNat,(s.1.drop n.toNat,false))
def numS (s:Src) (k:Int):Int×Src:=(valB (takeS s k).1,(takeS s k).2)
def keyS (s:Src):List UInt8×Src:=takeS (numS s 1).2 (numS s 1).1
def restS (s:Src):List UInt8×Src:=takeS s s.1.length
def locS (s:Src):Lc×Src :=
 let x:=numS s 4
 let y:=numS x.2 4
 let z:=numS y.2 2
 ((x.1,y.1,z.1),z.2)
def locsL:Nat→Src→List Lc→List Lc×Src
 | 0,s,acc=>(acc,s)
 | k+1,s,acc=>if (locS s).2.2=true then ([],(locS s).2) else locsL k (locS s).2 (acc++[(locS s).1])
def locsS (s:Src):List Lc×Src:=locsL (numS s 2).1.toNat (numS s 2).2 []
def Zac (s:Src):Rc×Src :=
 let x:=numS s 6
 let y:=numS x.2 2
 let z:=restS y.2
 (⟨0,[],x.1,y.1,0,[],z.1⟩,z.2)
def rootS (s:Src):Rc×Src :=
 let k:=keyS s
 let x:=numS k.2 6
 let y:=numS x.2 3
 let z:=locsS y.2
 (⟨0,k.1,x.1,0,y.1,z.1,[]⟩,z.2)
def Y4 (s:Src):Rc×Src :=
 let k:=keyS s
 let z:=restS k.2
 (⟨0,k.1,0,0,0,[],z.1⟩,z.2)
def tombS (s:Src):Rc×Src:=(⟨0,(restS s).1,0,0,0,[],[]⟩,(restS s).2)
def partS (k:Int) (s:Src):Rc×Src:=if k=1 then Zac s else if k=2 then rootS s else if k=3 then Y4 s else tombS s
def getR:List UInt8→Option Rc
 | []=>Option.none
 | c :: bs =>
   if 1≤c.toNat∧c.toNat≤4 then
    if ((partS c.toNat (bs,false)).2.2=false∧(partS c.toNat (bs,false)).2.1=[])∧Zv { (partS c.toNat (bs,false)).1 with kind:=c.toNat } then some { (partS c.toNat (bs,false)).1 with kind:=c.toNat } else Option.none
   else Option.none
end Go.Proofs.YtkelafkbmnjpeaaGreat
namespace Go.Proofs.YtkelafkbmnjpeaaGreat
def stepN (n:Nat):Nat:=if n % 2=1 then (n / 2) ^^^ 2197175160 else n / 2
def iterN:Nat→Nat→Nat
 | 0,n=>n
 | k+1,n=>stepN (iterN k n)
theorem Zsw (n:Nat) (h:n < 4294967296):stepN n < 4294967296:=by
 unfold stepN
 split
 ·exact Nat.xor_lt_two_pow (n:=32) (by omega) (by omega)
 ·omega
theorem Zmg (k n:Nat) (h:n < 4294967296):iterN k n < 4294967296:=by
 induction k with
 | zero=>exact h
 | succ k ih=>exact Zsw _ ih
theorem Zsx (s:Nat) (h:s < 4294967296):4294967295 ^^^ s=4294967295 - s:=by
 have h1:(BitVec.allOnes 32 ^^^ BitVec.ofNat 32 s).toNat=4294967295 - s:=by
  rw [BitVec.allOnes_xor,BitVec.toNat_not,BitVec.toNat_ofNat,Nat.mod_eq_of_lt h]
 rw [BitVec.toNat_xor,BitVec.toNat_ofNat,Nat.mod_eq_of_lt h] at h1
 exact h1
def tabN (i:Nat):Nat:=iterN 8 i
theorem Zvc (i:Nat) (h:i < 256):tabN i < 4294967296:=Zmg 8 i (by omega)
def nextN (f:Nat→Nat) (s:Nat) (c:UInt8):Nat:=s / 256 ^^^ f ((s ^^^ c.toNat) % 256)
def runN (f:Nat→Nat) (s:Nat) (bs:List UInt8):Nat:=bs.foldl (nextN f) s
def onN (f:Nat→Nat) (s:Nat) (bs:List UInt8):Nat:=4294967295 - runN f (4294967295 - s) bs
theorem Zsy (f:Nat→Nat) (hf:∀ i,i < 256→f i < 4294967296) (s:Nat) (c:UInt8) (h:s < 4294967296):nextN f s c < 4294967296 :=
 Nat.xor_lt_two_pow (n:=32) (by omega) (hf _ (by omega))
theorem Zvd (f:Nat→Nat) (hf:∀ i,i < 256→f i < 4294967296) (bs:List UInt8) (s:Nat) (h:s < 4294967296):runN f s bs < 4294967296:=by
 induction bs generalizing s with
 | nil=>exact h
 | cons c bs ih=>exact ih _ (Zsy f hf s c h)
theorem Zp0 (f:Nat→Nat) (s:Nat) (bs:List UInt8) (k:Nat) (h:k < bs.length):runN f s (bs.take (k+1))=nextN f (runN f s (bs.take k)) (bs.getD k 0):=by
 rw [List.take_succ_eq_append_getElem h]
 unfold runN
 rw [List.foldl_append]
 simp [h]
theorem Zun (f:Nat→Nat) (s:Nat) (bs:List UInt8):onN f s bs < 4294967296:=by unfold onN;omega
end Go.Proofs.YtkelafkbmnjpeaaGreat
namespace Go.Proofs.YtkelafkbmnjpeaaGreat
def sizeN (n:Int):Int:=if 1≤n∧n≤8192 then n+8 else 0
def headB (n:Nat):List UInt8:=[UInt8.ofNat (n / 256),UInt8.ofNat n,UInt8.ofNat (255 - n / 256 % 256),UInt8.ofNat (255 - n % 256)]
def lowB (s:Nat):List UInt8:=[UInt8.ofNat s,UInt8.ofNat (s / 256),UInt8.ofNat (s / 65536),UInt8.ofNat (s / 16777216)]
def tailB (bs:List UInt8):List UInt8:=lowB (onN tabN 0 bs)
def Yu (b:List UInt8):List UInt8:=headB b.length++b++tailB (headB b.length++b)
def putB (b:List UInt8):List UInt8:=if 1≤b.length∧b.length≤8192 then Yu b else []
theorem Z8 (n:Nat):(headB n).length=4:=rfl
theorem Jh (b:List UInt8):(tailB b).length=4:=rfl
theorem Zn (b:List UInt8):(Yu b).length=b.length+8:=by
 unfold Yu
 rw [List.length_append,List.length_append,Z8,Jh]
 omega
def toldN (b:List UInt8):Nat:=256*(b.getD 0 0).toNat+(b.getD 1 0).toNat
def Zh (b:List UInt8):List UInt8×Nat×Nat :=
 if b.length < 4 then ([],0,21)
 else if ¬ (1≤toldN b∧toldN b≤8192)∨b.take 4≠headB (toldN b) then ([],0,22)
 else if b.length < toldN b+8 then ([],0,21)
 else if (b.drop (toldN b+4)).take 4≠tailB (b.take (toldN b+4)) then ([],toldN b+8,22)
 else ((b.drop 4).take (toldN b),toldN b+8,0)
end Go.Proofs.YtkelafkbmnjpeaaGreat
namespace Go.Proofs.YtkelafkbmnjpeaaGreat
/-! What xor does to it. -/
end Go.Proofs.YtkelafkbmnjpeaaGreat
namespace Go.Proofs.YtkelafkbmnjpeaaGreat
end Go.Proofs.YtkelafkbmnjpeaaGreat
namespace Go.Proofs.YtkelafkbmnjpeaaGreat
theorem Zpx (n:Nat) (h:n≤8192) (x:List UInt8):toldN (headB n++x)=n:=by
 unfold toldN headB
 simp only [List.cons_append,List.getD_cons_zero,List.getD_cons_succ,UInt8.toNat_ofNat']
 omega
theorem Zpy (n:Nat) (x:List UInt8):(headB n++x).take 4=headB n:=by
 rw [List.take_append_of_le_length (by rw [Z8];omega),List.take_of_length_le (by rw [Z8];omega)]
theorem Zno (b more:List UInt8) (h1:1≤b.length) (h2:b.length≤8192):Zh (Yu b++more)=(b,b.length+8,0):=by
 have e:Yu b++more=headB b.length++(b++(tailB (headB b.length++b)++more)):=by unfold Yu;simp [List.append_assoc]
 have hl:(Yu b++more).length=b.length+8+more.length:=by rw [List.length_append,Zn]
 unfold Zh
 rw [if_neg (by omega)]
 have ht:toldN (Yu b++more)=b.length:=by rw [e];exact Zpx _ h2 _
 have hk:(Yu b++more).take 4=headB b.length:=by rw [e];exact Zpy _ _
 rw [ht,hk,if_neg (fun h=>h.elim (fun h=>h ⟨h1,h2⟩) (fun h=>h rfl)),if_neg (by omega)]
 have hx:(Yu b++more).take (b.length+4)=headB b.length++b:=by
  unfold Yu
  rw [List.append_assoc (headB b.length++b),List.take_append_of_le_length (by rw [List.length_append,Z8];omega),List.take_of_length_le (by rw [List.length_append,Z8];omega)]
 have hy:((Yu b++more).drop (b.length+4)).take 4=tailB (headB b.length++b):=by
  unfold Yu
  rw [List.append_assoc (headB b.length++b),List.drop_left' (by rw [List.length_append,Z8];omega),List.take_left' (Jh _)]
 rw [hx,hy,if_neg (fun h=>h rfl)]
 have hz:((Yu b++more).drop 4).take b.length=b:=by
  rw [e,List.drop_left' (Z8 _),List.take_left' rfl]
 rw [hz]
theorem Zbt {c y:List UInt8} {k:Nat} (h:Zh c=(y,k,0)):9≤k∧k≤c.length∧putB y=c.take k:=by
 unfold Zh at h
 by_cases h4:c.length < 4
 ·rw [if_pos h4] at h;simp at h
 rw [if_neg h4] at h
 by_cases hm:¬ (1≤toldN c∧toldN c≤8192)∨c.take 4≠headB (toldN c)
 ·rw [if_pos hm] at h;simp at h
 rw [if_neg hm] at h
 by_cases h8:c.length < toldN c+8
 ·rw [if_pos h8] at h;simp at h
 rw [if_neg h8] at h
 by_cases hx:(c.drop (toldN c+4)).take 4≠tailB (c.take (toldN c+4))
 ·rw [if_pos hx] at h;simp at h
 rw [if_neg hx] at h
 simp only [Prod.mk.injEq,and_true] at h
 obtain ⟨hy,hk⟩:=h
 have hr:1≤toldN c∧toldN c≤8192:=Decidable.not_not.1 fun h=>hm (.inl h)
 have hh:c.take 4=headB (toldN c):=Decidable.not_not.1 fun h=>hm (.inr h)
 have ht:(c.drop (toldN c+4)).take 4=tailB (c.take (toldN c+4)):=Decidable.not_not.1 hx
 generalize toldN c=T at *
 have hyl:y.length=T:=by rw [←hy,List.length_take,List.length_drop];omega
 refine ⟨by omega,by omega,?_⟩
 unfold putB
 rw [hyl,if_pos hr]
 unfold Yu
 have h1:c.take (T+4)=headB T++y:=by
  rw [←hy,←hh,←List.take_add,Nat.add_comm]
 rw [hyl,←h1,←ht,←hk,←List.take_add]
theorem Zpz {c y:List UInt8} {k e:Nat} (h:Zh c=(y,k,e)) (he:e≠0):y=[]∧(k=0∨e=22∧9≤k∧k≤c.length):=by
 unfold Zh at h
 by_cases h4:c.length < 4
 ·rw [if_pos h4] at h;simp at h;obtain ⟨rfl,rfl,rfl⟩:=h;simp
 rw [if_neg h4] at h
 by_cases hm:¬ (1≤toldN c∧toldN c≤8192)∨c.take 4≠headB (toldN c)
 ·rw [if_pos hm] at h;simp at h;obtain ⟨rfl,rfl,rfl⟩:=h;simp
 rw [if_neg hm] at h
 by_cases h8:c.length < toldN c+8
 ·rw [if_pos h8] at h;simp at h;obtain ⟨rfl,rfl,rfl⟩:=h;simp
 rw [if_neg h8] at h
 have hr:1≤toldN c∧toldN c≤8192:=Decidable.not_not.1 fun h=>hm (.inl h)
 by_cases hx:(c.drop (toldN c+4)).take 4≠tailB (c.take (toldN c+4))
 ·rw [if_pos hx] at h;simp at h;obtain ⟨rfl,rfl,rfl⟩:=h;refine ⟨rfl,.inr ⟨rfl,by omega,by omega⟩⟩
 ·rw [if_neg hx] at h;simp at h;exact absurd h.2.2.symm he
end Go.Proofs.YtkelafkbmnjpeaaGreat
namespace Go.Proofs.YtkelafkbmnjpeaaGreat
end Go.Proofs.YtkelafkbmnjpeaaGreat
namespace Go.Proofs.YtkelafkbmnjpeaaGreat
theorem Yq {bs y:List UInt8} {k e:Nat} (h:Zh bs=(y,k,e)):(k=0∨9≤k∧k≤bs.length)∧(e=0→9≤k)∧(e≠0→y=[]):=by
 by_cases he:e=0
 ·subst he
  have:=Zbt h
  exact ⟨.inr ⟨this.1,this.2.1⟩,fun _=>this.1,fun h=>absurd rfl h⟩
 ·have:=Zpz h he
  refine ⟨?_,fun h=>absurd h he,fun _=>this.1⟩
  rcases this.2 with h | h
  ·exact .inl h
  ·exact .inr h.2
theorem Zp1 (bs:List UInt8):(Zh bs).2.2=0∨(Zh bs).2.2=21∨(Zh bs).2.2=22:=by
 unfold Zh
 split
 ·exact .inr (.inl rfl)
 split
 ·exact .inr (.inr rfl)
 split
 ·exact .inr (.inl rfl)
 split
 ·exact .inr (.inr rfl)
 ·exact .inl rfl
abbrev Ev:=Nat×Nat×List UInt8×Nat
def evF:Nat→List UInt8→Nat→List Ev
 | 0,_,_=>[]
 | f+1,bs,at_=>if bs=[] then [] else (at_,(Zh bs).2.1,(Zh bs).1,(Zh bs).2.2) :: if (Zh bs).2.1=0 then [] else evF f (bs.drop (Zh bs).2.1) (at_+(Zh bs).2.1)
theorem evF_enough:∀ (N f:Nat) (bs:List UInt8) (a:Nat),bs.length≤N→bs.length≤f→evF f bs a=evF bs.length bs a
 | 0,f,bs,a,hN,_=>by
   have hb:bs=[]:=List.eq_nil_of_length_eq_zero (by omega)
   subst hb
   cases f <;> simp [evF]
 | N+1,f,bs,a,hN,hf=>by
   by_cases hb:bs=[]
   ·subst hb
    cases f <;> simp [evF]
   ·have hl:0 < bs.length:=List.length_pos_iff.2 hb
    obtain ⟨m,hm⟩:∃ m,bs.length=m+1:=⟨bs.length - 1,by omega⟩
    obtain ⟨g,rfl⟩:∃ g,f=g+1:=⟨f - 1,by omega⟩
    rw [hm]
    unfold evF
    rw [if_neg hb,if_neg hb]
    obtain ⟨hk,_⟩:=Yq (bs:=bs) (y:=(Zh bs).1) (k:=(Zh bs).2.1) (e:=(Zh bs).2.2) rfl
    generalize (Zh bs).2.1=k at *
    by_cases hk0:k=0
    ·rw [if_pos hk0,if_pos hk0]
    ·rw [if_neg hk0,if_neg hk0,evF_enough N g _ _ (by rw [List.length_drop];omega) (by rw [List.length_drop];omega),evF_enough N m _ _ (by rw [List.length_drop];omega) (by rw [List.length_drop];omega)]
def evB (bs:List UInt8) (a:Nat):List Ev:=evF bs.length bs a
theorem Zve (a:Nat):evB [] a=[]:=rfl
theorem Za1 {bs y:List UInt8} {k e:Nat} (hb:bs≠[]) (h:Zh bs=(y,k,e)) (a:Nat):evB bs a=(a,k,y,e) :: if k=0 then [] else evB (bs.drop k) (a+k):=by
 have hl:0 < bs.length:=List.length_pos_iff.2 hb
 obtain ⟨m,hm⟩:∃ m,bs.length=m+1:=⟨bs.length - 1,by omega⟩
 obtain ⟨hk,_⟩:=Yq h
 unfold evB
 rw [hm]
 conv=>lhs;unfold evF
 rw [if_neg hb,h]
 dsimp only
 by_cases hk0:k=0
 ·rw [if_pos hk0,if_pos hk0]
 ·rw [if_neg hk0,if_neg hk0,evF_enough m m _ _ (by rw [List.length_drop];omega) (by rw [List.length_drop];omega)]
def allE:List Ev→Nat→List (Nat×Nat×List UInt8)×Nat×Nat×Nat
 | [],a=>([],0,a,0)
 | (a,k,y,e) :: r,_=>if e=0 then ((a,k,y) :: (allE r (a+k)).1,(allE r (a+k)).2) else if k=0 then ([],0,a,e) else ((allE r (a+k)).1,(allE r (a+k)).2.1+1,(allE r (a+k)).2.2)
def allB (bs:List UInt8) (a:Nat):List (Nat×Nat×List UInt8)×Nat×Nat×Nat:=allE (evB bs a) a
def nextE:List Ev→Nat→(Nat×Nat×List UInt8)×Nat×Nat×Nat
 | [],a=>((0,0,[]),0,a,0)
 | (a,k,y,e) :: r,_=>if e=0 then ((a,k,y),0,a+k,0) else if k=0 then ((0,0,[]),0,a,e) else ((nextE r (a+k)).1,(nextE r (a+k)).2.1+1,(nextE r (a+k)).2.2)
def nextB (bs:List UInt8) (a:Nat):(Nat×Nat×List UInt8)×Nat×Nat×Nat:=nextE (evB bs a) a
section
variable {bs y:List UInt8} {k e:Nat}
theorem Zad (a:Nat):allB [] a=([],0,a,0):=rfl
theorem Zc9 (hb:bs≠[]) (h:Zh bs=(y,k,0)) (a:Nat):allB bs a=((a,k,y) :: (allB (bs.drop k) (a+k)).1,(allB (bs.drop k) (a+k)).2):=by
 have hk:=(Yq h).2.1 rfl
 unfold allB
 rw [Za1 hb h,allE,if_pos rfl,if_neg (by omega)]
theorem Zbu (hb:bs≠[]) (h:Zh bs=(y,0,e)) (he:e≠0) (a:Nat):allB bs a=([],0,a,e):=by
 unfold allB
 rw [Za1 hb h,allE,if_neg he,if_pos rfl]
theorem Zda (hb:bs≠[]) (h:Zh bs=(y,k,e)) (he:e≠0) (hk:k≠0) (a:Nat):allB bs a=((allB (bs.drop k) (a+k)).1,(allB (bs.drop k) (a+k)).2.1+1,(allB (bs.drop k) (a+k)).2.2):=by
 unfold allB
 rw [Za1 hb h,allE,if_neg he,if_neg hk,if_neg hk]
theorem Zp2 (hb:bs≠[]) (h:Zh bs=(y,k,0)) (a:Nat):nextB bs a=((a,k,y),0,a+k,0):=by
 unfold nextB
 rw [Za1 hb h,nextE,if_pos rfl]
theorem Znp (hb:bs≠[]) (h:Zh bs=(y,0,e)) (he:e≠0) (a:Nat):nextB bs a=((0,0,[]),0,a,e):=by
 unfold nextB
 rw [Za1 hb h,nextE,if_neg he,if_pos rfl]
theorem Zp3 (hb:bs≠[]) (h:Zh bs=(y,k,e)) (he:e≠0) (hk:k≠0) (a:Nat):nextB bs a=((nextB (bs.drop k) (a+k)).1,(nextB (bs.drop k) (a+k)).2.1+1,(nextB (bs.drop k) (a+k)).2.2):=by
 unfold nextB
 rw [Za1 hb h,nextE,if_neg he,if_neg hk,if_neg hk]
end
theorem all_next:∀ (N:Nat) (bs:List UInt8) (a:Nat),bs.length≤N →
 (((nextB bs a).1.2.1=0∧allB bs a=([],(nextB bs a).2)) ∨
  (9≤(nextB bs a).1.2.1∧(nextB bs a).2.2.2=0∧a+9≤(nextB bs a).2.2.1∧(nextB bs a).2.2.1≤a+bs.length ∧
    allB bs a=((nextB bs a).1 :: (allB (bs.drop ((nextB bs a).2.2.1 - a)) (nextB bs a).2.2.1).1,(nextB bs a).2.1+(allB (bs.drop ((nextB bs a).2.2.1 - a)) (nextB bs a).2.2.1).2.1,(allB (bs.drop ((nextB bs a).2.2.1 - a)) (nextB bs a).2.2.1).2.2)))
 | 0,bs,a,hN=>by
   have hb:bs=[]:=List.eq_nil_of_length_eq_zero (by omega)
   subst hb
   exact .inl ⟨rfl,rfl⟩
 | N+1,bs,a,hN=>by
   by_cases hb:bs=[]
   ·subst hb
    exact .inl ⟨rfl,rfl⟩
   obtain ⟨⟨y,k,e⟩,h⟩:∃ r,Zh bs=r:=⟨_,rfl⟩
   obtain ⟨hk,hk0,_⟩:=Yq h
   by_cases he:e=0
   ·subst he
    have hk0:=hk0 rfl
    rw [Zp2 hb h,Zc9 hb h]
    refine .inr ⟨hk0,rfl,by dsimp only;omega,by dsimp only;omega,?_⟩
    dsimp only
    rw [Nat.add_sub_cancel_left,Nat.zero_add]
   ·by_cases hz:k=0
    ·subst hz
     rw [Znp hb h he,Zbu hb h he]
     exact .inl ⟨rfl,rfl⟩
    ·rw [Zp3 hb h he hz,Zda hb h he hz]
     rcases all_next N (bs.drop k) (a+k) (by rw [List.length_drop];omega) with ⟨h1,h2⟩ | ⟨h1,h2,h3,h4,h5⟩
     ·refine .inl ⟨h1,?_⟩
      rw [h2]
     ·rw [List.length_drop] at h4
      refine .inr ⟨h1,h2,by dsimp only;omega,by dsimp only;omega,?_⟩
      rw [h5]
      dsimp only
      generalize (nextB (bs.drop k) (a+k)).2.2.1=q at *
      rw [List.drop_drop,show k+(q - (a+k))=q - a by omega,Nat.add_right_comm]
theorem all_end:∀ (N:Nat) (bs:List UInt8) (a:Nat),bs.length≤N→a≤(allB bs a).2.2.1∧(allB bs a).2.2.1≤a+bs.length∧(allB bs a).2.1≤bs.length∧9*(allB bs a).1.length≤bs.length∧∀ t∈(allB bs a).1,t.1≤a+bs.length∧t.2.1≤a+bs.length
 | 0,bs,a,hN=>by
   have hb:bs=[]:=List.eq_nil_of_length_eq_zero (by omega)
   subst hb
   simp [Zad]
 | N+1,bs,a,hN=>by
   by_cases hb:bs=[]
   ·subst hb
    simp [Zad]
   obtain ⟨⟨y,k,e⟩,h⟩:∃ r,Zh bs=r:=⟨_,rfl⟩
   obtain ⟨hk,hk0,_⟩:=Yq h
   by_cases he:e=0
   ·subst he
    have hk0:=hk0 rfl
    rw [Zc9 hb h]
    obtain ⟨h1,h2,h3,h4,h5⟩:=all_end N (bs.drop k) (a+k) (by rw [List.length_drop];omega)
    rw [List.length_drop] at h2 h3 h4 h5
    dsimp only
    refine ⟨by omega,by omega,by omega,by rw [List.length_cons];omega,fun t ht=>?_⟩
    rcases List.mem_cons.1 ht with rfl | ht
    ·dsimp only;omega
    ·have:=h5 t ht;omega
   ·by_cases hz:k=0
    ·subst hz
     rw [Zbu hb h he]
     simp
    ·rw [Zda hb h he hz]
     obtain ⟨h1,h2,h3,h4,h5⟩:=all_end N (bs.drop k) (a+k) (by rw [List.length_drop];omega)
     rw [List.length_drop] at h2 h3 h4 h5
     dsimp only
     refine ⟨by omega,by omega,by omega,by omega,fun t ht=>?_⟩
     have:=h5 t ht;omega
/-! What has come, from the beginning on. -/
def Goes (x:Ev):Prop:=x.2.2.2=0∨x.2.1≠0
def gotE (l:List Ev):List (Nat×Nat×List UInt8):=(l.filter fun x=>x.2.2.2==0).map fun x=>(x.1,x.2.1,x.2.2.1)
def badE (l:List Ev):Nat:=(l.filter fun x=>x.2.2.2 != 0).length
def endE (a:Nat):List Ev→Nat
 | []=>a
 | x :: l=>endE (x.1+x.2.1) l
theorem Zfn (x:Ev):∀ (l:List Ev) (a:Nat),endE a (l++[x])=x.1+x.2.1
 | [],_=>rfl
 | _ :: l,_=>Zfn x l _
theorem Zp4 (l:List Ev) (x:Ev):gotE (l++[x])=gotE l++if x.2.2.2=0 then [(x.1,x.2.1,x.2.2.1)] else []:=by
 unfold gotE
 rw [List.filter_append,List.map_append]
 by_cases h:x.2.2.2=0 <;> simp [h]
theorem Zp5 (l:List Ev) (x:Ev):badE (l++[x])=badE l+if x.2.2.2=0 then 0 else 1:=by
 unfold badE
 rw [List.filter_append,List.length_append]
 by_cases h:x.2.2.2=0 <;> simp [h]
theorem allE_run:∀ (l r:List Ev) (a:Nat),(∀ x∈l,Goes x)→allE (l++r) a=(gotE l++(allE r (endE a l)).1,badE l+(allE r (endE a l)).2.1,(allE r (endE a l)).2.2)
 | [],r,a,_=>by simp [gotE,badE,endE]
 | (b,k,y,e) :: l,r,a,h=>by
   have ih:=allE_run l r (b+k) fun x hx=>h x (List.mem_cons_of_mem _ hx)
   have h0:e=0∨k≠0:=h _ List.mem_cons_self
   rw [List.cons_append,allE,ih]
   by_cases he:e=0
   ·subst he
    simp [gotE,badE,endE]
   ·have hk:k≠0:=h0.resolve_left he
    rw [if_neg he,if_neg hk]
    simp [gotE,badE,endE,he,Nat.add_right_comm]
end Go.Proofs.YtkelafkbmnjpeaaGreat
