/-
  Texts that the statements lean on, one behind the other.
-/
import Derived.Test.YtkelafkbmnjpeaaGreatMG09
import Derived.Test.YtkelafkbmnjpeaaGreatMG10
import Derived.Test.YtkelafkbmnjpeaaGreatMG22
import Derived.Maps.OwnSet
import Derived.Sort.KeysCollected
import Derived.Test.YtkelafkbmnjpeaaGreatMG18
import Derived.Lib.RowBridge
set_option linter.unusedSimpArgs false
set_option linter.unusedVariables false
namespace Go.Proofs.YtkelafkbmnjpeaaGreat
open Go.RowKit Go.Maps Go.WideMaps
def isS (n:Nm):Bool:=n.head?==some 115
def okF (P:Nat→Prop) (k:Nat) (n:Nm) (f:Nat):Prop:=n.length≤16∧f < k∧(isS n=true↔P f)
def okC (P:Nat→Prop) (k:Nat):Ch→Prop
 | .made n f=>okF P k n f
 | .moved n to=>to.length≤16∧isS n=isS to
 | .taken _=>True
structure LB (T S:Nat) (P:Nat→Prop) (m:Dk):Prop where
 cut:-1≤m.cut∧m.cut≤9223372036854775807
 fail:-1≤m.fail∧m.fail≤9223372036854775807
 made:m.made≤T
 pend:m.kept.length+m.pend.length≤T
 names:m.names.length≤T
 bytes:∀ i,i < m.made→(m.files i).bytes.length≤2*S+4100∧(m.files i).kept≤(m.files i).bytes.length
 segs:∀ i,P i→i < m.made∧(m.files i).bytes.length≤S
 inN:∀ p∈m.names,okF P m.made p.1 p.2
 inK:∀ p∈m.kept,okF P m.made p.1 p.2
 inP:∀ c∈m.pend,okC P m.made c
def LOk (T S:Nat) (m:Dk):Prop:=∃ P,LB T S P m
theorem Zhn {x p:Nm×Nat}:∀ {l:Dir},p∈Dir.ins x l→p=x∨p∈l
 | [],h=>.inl (List.mem_singleton.1 h)
 | y :: l,h=>by
   unfold Dir.ins at h
   split at h
   ·rcases List.mem_cons.1 h with h | h
    ·exact .inl h
    ·exact .inr h
   ·rcases List.mem_cons.1 h with h | h
    ·exact .inr (h ▸ List.mem_cons_self ..)
    ·rcases Zhn h with h | h
     ·exact .inl h
     ·exact .inr (List.mem_cons_of_mem _ h)
theorem Zd8 {n:Nm} {l:Dir} {p:Nm×Nat} (h:p∈Dir.del n l):p∈l:=(List.mem_filter.1 h).1
theorem on_P {P:Nat→Prop} {k:Nat} {c:Ch} {l:Dir} (hc:okC P k c) (h:∀ p∈l,okF P k p.1 p.2):∀ p∈c.on l,okF P k p.1 p.2:=by
 cases c with
 | made n f =>
   intro p hp
   rcases Zhn (show p∈Dir.ins (n,f) (Dir.del n l) from hp) with rfl | h1
   ·exact hc
   ·exact h p (Zd8 h1)
 | taken n=>exact fun p hp=>h p (Zd8 (show p∈Dir.del n l from hp))
 | moved n to =>
   show ∀ p∈(match Dir.find n l with | some f=>Dir.put to f (Dir.del n l) | none=>l),_
   cases hf:Dir.find n l with
   | none=>exact h
   | some f =>
     intro p hp
     rcases Zhn (show p∈Dir.ins (to,f) (Dir.del to (Dir.del n l)) from hp) with rfl | h1
     ·have:=h (n,f) (Zhw hf)
      obtain ⟨hc1,hc2⟩:to.length≤16∧isS n=isS to:=hc
      refine ⟨hc1,this.2.1,?_⟩
      rw [←hc2]
      exact this.2.2
     ·exact h p (Zd8 (Zd8 h1))
theorem Ztu {P:Nat→Prop} {k:Nat}:∀ (cs:List Ch) {l:Dir},(∀ c∈cs,okC P k c)→(∀ p∈l,okF P k p.1 p.2)→∀ p∈redo cs l,okF P k p.1 p.2
 | [],_,_,h=>h
 | c :: cs,_,hc,h=>Ztu cs (fun d hd=>hc d (List.mem_cons_of_mem _ hd)) (on_P (hc c (List.mem_cons_self ..)) h)
section
variable {T T' S S':Nat} {P:Nat→Prop} {m:Dk}
theorem LB.mono (h:LB T S P m) (hT:T≤T') (hS:S≤S'):LB T' S' P m :=
 ⟨h.cut,h.fail,Nat.le_trans h.made hT,Nat.le_trans h.pend hT,Nat.le_trans h.names hT,fun i hi=>⟨by have:=(h.bytes i hi).1;omega,(h.bytes i hi).2⟩,fun i hi=>⟨(h.segs i hi).1,Nat.le_trans (h.segs i hi).2 hS⟩,h.inN,h.inK,h.inP⟩
theorem LOk.mono (h:LOk T S m) (hT:T≤T') (hS:S≤S'):LOk T' S' m:=by obtain ⟨P,h⟩:=h;exact ⟨P,h.mono hT hS⟩
theorem LOk.ok (h:LOk T S m):DkOk (T+2*S+4100) m:=by
 obtain ⟨P,h⟩:=h
 exact ⟨h.cut,h.fail,by have:=h.made;omega,by have:=h.pend;omega,by have:=h.names;omega,fun i hi=>⟨by have:=(h.bytes i hi).1;omega,(h.bytes i hi).2⟩⟩
theorem LB.nums (h:LB T S P m) {m':Dk} (hc:-1≤m'.cut∧m'.cut≤9223372036854775807) (hf:-1≤m'.fail∧m'.fail≤9223372036854775807) (h1:m'.made=m.made) (h2:m'.names=m.names) (h3:m'.kept=m.kept) (h4:m'.pend=m.pend) (h5:m'.files=m.files):LB T S P m' :=
 ⟨hc,hf,h1 ▸ h.made,by rw [h3,h4];exact h.pend,h2 ▸ h.names,fun i hi=>by rw [h5];exact h.bytes i (h1 ▸ hi),fun i hi=>by rw [h5,h1];exact h.segs i hi,by rw [h1,h2];exact h.inN,by rw [h1,h3];exact h.inK,by rw [h1,h4];exact h.inP⟩
theorem LOk.new (y:Int):LOk 0 S (Dk.new y) :=
 ⟨fun _=>False,by simp [Dk.new],by simp [Dk.new],by simp [Dk.new],by simp [Dk.new],by simp [Dk.new],fun i hi=>absurd hi (Nat.not_lt_zero _),fun i hi=>hi.elim,fun p hp=>(by cases hp),fun p hp=>(by cases hp),fun p hp=>(by cases hp)⟩
theorem LOk.fails (h:LOk T S m) (x:Int) (hx:x≤9223372036854775807):LOk T S (m.setFail x):=by
 obtain ⟨P,h⟩:=h
 exact ⟨P,h.nums h.cut (by have:=h.fail;unfold Dk.setFail;dsimp only;split <;> omega) rfl rfl rfl rfl rfl⟩
theorem LB.soon (h:LB T S P m):LB T S P m.sooner:=h.nums (Zcr h.cut) (Zcr h.fail) rfl rfl rfl rfl rfl
theorem LOk.thing (h:LOk T S m) (hT:T≤T') (hS:S≤S') {does:Dk→Dk} (hd:∀ P,LB T S P m.sooner→LOk T' S' (does m.sooner)):LOk T' S' (m.thing does).1:=by
 obtain ⟨P,h⟩:=h
 have hs:=h.soon
 unfold Dk.thing
 split
 ·exact ⟨P,h.mono hT hS⟩
 ·split
  ·exact ⟨P,(hs.mono hT hS).nums (by simp) hs.fail rfl rfl rfl rfl rfl⟩
  ·split
   ·exact ⟨P,(hs.mono hT hS).nums hs.cut (by simp) rfl rfl rfl rfl rfl⟩
   ·obtain ⟨P',h2⟩:=hd P hs
    exact ⟨P',h2.nums h2.cut h2.fail rfl rfl rfl rfl rfl⟩
theorem LB.change (h:LB T S P m) {c:Ch} (hc:okC P m.made c):LB (T+1) S P (m.change c) :=
 ⟨h.cut,h.fail,Nat.le_succ_of_le h.made,by show m.kept.length+(m.pend++[c]).length≤_;rw [List.length_append];have:=h.pend;simp only [List.length_singleton];omega,
  by show (c.on m.names).length≤_;have:=Zd9 c m.names;have:=h.names;omega,fun i hi=>h.bytes i hi,h.segs,on_P hc h.inN,h.inK,fun d hd=>by
   rcases List.mem_append.1 (show d∈m.pend++[c] from hd) with hd | hd
   ·exact h.inP d hd
   ·rw [List.mem_singleton.1 hd];exact hc⟩
theorem okF.more {P:Nat→Prop} {k:Nat} {n:Nm} {f:Nat} (b:Bool) (h:okF P k n f):okF (fun i=>P i∨(i=k∧b=true)) (k+1) n f :=
 ⟨h.1,Nat.lt_succ_of_lt h.2.1,h.2.2.trans ⟨.inl,fun e=>e.elim id fun e=>by have:=h.2.1;omega⟩⟩
theorem okC.more {P:Nat→Prop} {k:Nat} {c:Ch} (b:Bool) (h:okC P k c):okC (fun i=>P i∨(i=k∧b=true)) (k+1) c:=by
 cases c with
 | made n f=>exact okF.more b h
 | moved n to=>exact h
 | taken n=>trivial
theorem Zi2 {n:Nm} (h:¬ right n=false):n.length≤16:=by
 unfold right at h
 simp only [Bool.not_eq_false,Bool.and_eq_true,decide_eq_true_eq] at h
 exact h.2
theorem LB.make (h:LB T S P m) (n:Nm) (hn:n.length≤16):LB (T+1) S (fun i=>P i∨(i=m.made∧isS n=true)) (m.doCreate n):=by
 have h0:LB (T+1) S (fun i=>P i∨(i=m.made∧isS n=true)) { m with files:=fun j=>if j=m.made then ⟨[],0⟩ else m.files j,made:=m.made+1 }:=by
  refine ⟨h.cut,h.fail,Nat.succ_le_succ h.made,Nat.le_succ_of_le h.pend,Nat.le_succ_of_le h.names,fun i hi=>?_,fun i hi=>?_,fun p hp=>okF.more _ (h.inN p hp),fun p hp=>okF.more _ (h.inK p hp),fun c hc=>okC.more _ (h.inP c hc)⟩
  ·show (if i=m.made then (⟨[],0⟩:Fl) else m.files i).bytes.length≤_∧(if i=m.made then (⟨[],0⟩:Fl) else m.files i).kept≤(if i=m.made then (⟨[],0⟩:Fl) else m.files i).bytes.length
   split
   ·exact ⟨Nat.zero_le _,Nat.le_refl _⟩
   ·have:i < m.made+1:=hi
    exact h.bytes i (by omega)
  ·show i < m.made+1∧(if i=m.made then (⟨[],0⟩:Fl) else m.files i).bytes.length≤S
   rcases hi with hi | ⟨hi,_⟩
   ·have:=h.segs i hi
    rw [if_neg (by omega)]
    omega
   ·rw [if_pos hi]
    exact ⟨by omega,Nat.zero_le _⟩
 have hc:okC (fun i=>P i∨(i=m.made∧isS n=true)) (m.made+1) (.made n m.made):=⟨hn,Nat.lt_succ_self _,fun e=>.inr ⟨rfl,e⟩,fun e=>e.elim (fun e=>by have:=(h.segs _ e).1;omega) (·.2)⟩
 exact ⟨h0.cut,h0.fail,h0.made,by
  show m.kept.length+(m.pend++[_]).length≤_
  rw [List.length_append]
  have:=h.pend
  simp only [List.length_singleton]
  omega,by
  show ((Ch.made n m.made).on m.names).length≤_
  have:=Zd9 (.made n m.made) m.names
  have:=h.names
  omega,h0.bytes,h0.segs,on_P hc h0.inN,h0.inK,fun d hd=>by
   rcases List.mem_append.1 (show d∈m.pend++[_] from hd) with hd | hd
   ·exact h0.inP d hd
   ·rw [List.mem_singleton.1 hd];exact hc⟩
theorem LOk.create (h:LOk T S m) (n:Nm):LOk (T+1) S (m.create n).1:=by
 unfold Dk.create
 split
 ·exact h.mono (Nat.le_succ _) (Nat.le_refl _)
 ·split
  ·exact h.mono (Nat.le_succ _) (Nat.le_refl _)
  ·split
   ·exact h.mono (Nat.le_succ _) (Nat.le_refl _)
   ·split
    ·exact h.mono (Nat.le_succ _) (Nat.le_refl _)
    ·rename_i hr _ _
     exact h.thing (Nat.le_succ _) (Nat.le_refl _) fun P hs=>⟨_,hs.make n (Zi2 hr)⟩
theorem LB.find (h:LB T S P m) {n:Nm} {f:Nat} (hf:Dir.find n m.names=some f):okF P m.made n f:=h.inN (n,f) (Zhw hf)
theorem LOk.append (h:LOk T S m) (n:Nm) (b:List UInt8) (hS:S≤S') (h1:isS n=true→(m.size n).1+b.length≤S') (h2:(m.size n).1+b.length≤2*S'+4100):LOk T S' (m.append n b).1:=by
 unfold Dk.append
 split
 ·exact h.mono (Nat.le_refl _) hS
 ·split
  ·exact h.mono (Nat.le_refl _) hS
  ·rename_i f hf
   split
   ·exact h.mono (Nat.le_refl _) hS
   ·rw [Zbp hf] at h1 h2
    dsimp only at h1 h2
    refine h.thing (Nat.le_refl _) hS fun P hs=>⟨P,?_⟩
    have hm:=hs.mono (Nat.le_refl T) hS
    have hfo:okF P m.made n f:=hs.find hf
    refine ⟨hm.cut,hm.fail,hm.made,hm.pend,hm.names,fun i hi=>?_,fun i hi=>?_,hm.inN,hm.inK,hm.inP⟩
    ·show (if i=f then (⟨(m.files f).bytes++b,(m.files f).kept⟩:Fl) else m.files i).bytes.length≤_∧(if i=f then (⟨(m.files f).bytes++b,(m.files f).kept⟩:Fl) else m.files i).kept≤(if i=f then (⟨(m.files f).bytes++b,(m.files f).kept⟩:Fl) else m.files i).bytes.length
     by_cases e:i=f
     ·subst e
      rw [if_pos rfl]
      have:=(hs.bytes i hi).2
      have:(m.files i).kept≤(m.files i).bytes.length:=this
      dsimp only
      rw [List.length_append]
      omega
     ·rw [if_neg e]
      exact hm.bytes i hi
    ·refine ⟨(hm.segs i hi).1,?_⟩
     show (if i=f then (⟨(m.files f).bytes++b,(m.files f).kept⟩:Fl) else m.files i).bytes.length≤S'
     by_cases e:i=f
     ·subst e
      rw [if_pos rfl]
      have:=h1 (hfo.2.2.2 hi)
      dsimp only
      rw [List.length_append]
      omega
     ·rw [if_neg e]
      exact (hm.segs i hi).2
theorem LOk.sync (h:LOk T S m) (n:Nm):LOk T S (m.sync n).1:=by
 unfold Dk.sync
 split
 ·exact h
 ·split
  ·exact h
  ·rename_i f hf
   refine h.thing (Nat.le_refl _) (Nat.le_refl _) fun P hs=>⟨P,hs.cut,hs.fail,hs.made,hs.pend,hs.names,fun i hi=>?_,fun i hi=>?_,hs.inN,hs.inK,hs.inP⟩
   ·show (if i=f then (⟨(m.sooner.files f).bytes,(m.sooner.files f).bytes.length⟩:Fl) else m.sooner.files i).bytes.length≤_∧(if i=f then (⟨(m.sooner.files f).bytes,(m.sooner.files f).bytes.length⟩:Fl) else m.sooner.files i).kept≤(if i=f then (⟨(m.sooner.files f).bytes,(m.sooner.files f).bytes.length⟩:Fl) else m.sooner.files i).bytes.length
    by_cases e:i=f
    ·subst e
     rw [if_pos rfl]
     exact ⟨(hs.bytes i hi).1,Nat.le_refl _⟩
    ·rw [if_neg e]
     exact hs.bytes i hi
   ·refine ⟨(hs.segs i hi).1,?_⟩
    show (if i=f then (⟨(m.sooner.files f).bytes,(m.sooner.files f).bytes.length⟩:Fl) else m.sooner.files i).bytes.length≤S
    by_cases e:i=f
    ·subst e
     rw [if_pos rfl]
     exact (hs.segs i hi).2
    ·rw [if_neg e]
     exact (hs.segs i hi).2
theorem LOk.rename (h:LOk T S m) (n to:Nm) (hn:isS n=isS to):LOk (T+1) S (m.rename n to).1:=by
 unfold Dk.rename
 split
 ·exact h.mono (Nat.le_succ _) (Nat.le_refl _)
 ·split
  ·exact h.mono (Nat.le_succ _) (Nat.le_refl _)
  ·split
   ·exact h.mono (Nat.le_succ _) (Nat.le_refl _)
   ·rename_i hr
    refine h.thing (Nat.le_succ _) (Nat.le_refl _) fun P hs=>⟨P,?_⟩
    exact (hs.nums (m':={ m.sooner with used:=wrap64 (m.sooner.used - (m.sooner.size to).1) }) hs.cut hs.fail rfl rfl rfl rfl rfl).change ⟨Zi2 fun e=>hr (.inl e),hn⟩
theorem LOk.remove (h:LOk T S m) (n:Nm):LOk (T+1) S (m.remove n).1:=by
 unfold Dk.remove
 split
 ·exact h.mono (Nat.le_succ _) (Nat.le_refl _)
 ·split
  ·exact h.mono (Nat.le_succ _) (Nat.le_refl _)
  ·rename_i f hf
   refine h.thing (Nat.le_succ _) (Nat.le_refl _) fun P hs=>⟨P,?_⟩
   exact (hs.nums (m':={ m.sooner with used:=wrap64 (m.sooner.used - (m.sooner.files f).bytes.length) }) hs.cut hs.fail rfl rfl rfl rfl rfl).change trivial
theorem LB.keep (h:LB T S P m) (k:Nat):LB T S P (m.keep k) :=
 ⟨h.cut,h.fail,h.made,by
  show (redo (m.pend.take k) m.kept).length+0≤T
  have:=h.pend
  exact redo_short _ _ (by rw [List.length_take];omega),h.names,h.bytes,h.segs,h.inN,Ztu _ (fun c hc=>h.inP c (List.mem_of_mem_take hc)) h.inK,fun c hc=>by cases hc⟩
theorem LOk.small (h:LOk T S m):∀ s∈m.names.map (·.1),s.length≤16:=fun s hs=>by
 obtain ⟨P,h⟩:=h
 obtain ⟨p,hp,rfl⟩:=List.mem_map.1 hs
 exact (h.inN p hp).1
theorem LOk.syncDir (h:LOk T S m):LOk T S m.syncDir.1:=h.thing (Nat.le_refl _) (Nat.le_refl _) fun P hs=>⟨P,hs.keep _⟩
theorem Zaz {n:Nm} (h:(m.create n).2=0):(m.create n).1.size n=(0,true):=by
 unfold Dk.create at h ⊢
 split at h
 ·cases h
 split at h
 ·cases h
 split at h
 ·cases h
 split at h
 ·cases h
 rename_i h1 h2 h3 h4
 rw [if_neg h1,if_neg h2,if_neg h3,if_neg h4]
 unfold Dk.thing at h ⊢
 rw [if_neg h1] at h ⊢
 split at h
 ·cases h
 split at h
 ·cases h
 rename_i h5 h6
 rw [if_neg h5,if_neg h6]
 have hf:Dir.find n (m.sooner.doCreate n).names=some m.made:=Za1 _ _ _
 have hs:=Zbp (m:=m.sooner.doCreate n) hf
 have hz:((m.sooner.doCreate n).files m.made).bytes=[]:=by
  show (if m.made=m.made then (⟨[],0⟩:Fl) else _).bytes=_
  rw [if_pos rfl]
 rw [hz] at hs
 exact hs
theorem LOk.make (h:LOk T S m) (n:Int) (hS:13≤S):LOk (T+2) S (makeP m n).1:=by
 have h1:=h.create (nmS n)
 unfold makeP
 split
 ·rename_i hc
  have hz:=Zaz hc
  have hb:(putB (Zy n)).length=13:=by rw [Ye (by unfold Good;rw [Yh];omega),Zl,Yh]
  have h2:=h1.append (nmS n) (putB (Zy n)) (Nat.le_refl S) (fun _=>by rw [hz,hb];show (0:Int)+13≤S;omega) (by rw [hz,hb];show (0:Int)+13≤_;omega)
  split
  ·exact h2.mono (by omega) (Nat.le_refl _)
  ·exact h2.remove _
 ·exact h1.mono (by omega) (Nat.le_refl _)
theorem LOk.left (h:LOk T S m):LOk (T+1) S (leftP m).1:=by
 unfold leftP
 split
 ·exact h.remove _
 ·exact h.mono (Nat.le_succ _) (Nat.le_refl _)
theorem LOk.save (h:LOk T S m) (x:Mn):LOk (T+3) S (saveP m x).1:=by
 unfold saveP
 split
 rotate_left 1
 ·exact h.mono (by omega) (Nat.le_refl _)
 have hs:=Zgt x
 have h1:=h.left
 have h2:=h1.create nmT
 unfold Yj
 simp only [seqP]
 split
 rotate_left 1
 ·exact h1.mono (by omega) (Nat.le_refl _)
 split
 rotate_left 1
 ·exact h2.mono (by omega) (Nat.le_refl _)
 rename_i hc
 have hz:=Zaz hc
 have h3:=h2.append nmT (putM x) (Nat.le_refl S) (fun e=>by cases e) (by rw [hz];show (0:Int)+_≤_;omega)
 have h4:=h3.sync nmT
 have h5:=h4.rename nmT nmM rfl
 have h6:=h5.syncDir
 repeat' split
 all_goals first | exact h6.mono (by omega) (Nat.le_refl _) | exact h5.mono (by omega) (Nat.le_refl _) | exact h4.mono (by omega) (Nat.le_refl _) | exact h3.mono (by omega) (Nat.le_refl _)
end
end Go.Proofs.YtkelafkbmnjpeaaGreat
namespace Go.Proofs.YtkelafkbmnjpeaaGreat
/-! The order of keys. -/
theorem hbef_irrefl:∀ a:List UInt8,bytesBefore a a=false
 | []=>rfl
 | a :: r=>by
   have:=hbef_irrefl r
   simp [bytesBefore,this]
theorem hbef_total:∀ {a b:List UInt8},bytesBefore a b=false→a≠b→bytesBefore b a=true
 | [],[],_,h=>absurd rfl h
 | [],_ :: _,h,_=>by simp [bytesBefore] at h
 | _ :: _,[],_,_=>rfl
 | x :: r,y :: s,h,hne=>by
   simp only [bytesBefore,Bool.or_eq_false_iff,decide_eq_false_iff_not,Bool.and_eq_false_iff,beq_eq_false_iff_ne] at h
   simp only [bytesBefore,Bool.or_eq_true,decide_eq_true_eq,Bool.and_eq_true,beq_iff_eq]
   obtain ⟨h1,h2⟩:=h
   by_cases hxy:x=y
   ·subst hxy
    refine .inr ⟨rfl,hbef_total (h2.resolve_left fun h=>h rfl) fun e=>hne (by rw [e])⟩
   ·refine .inl ?_
    have h3:¬ x.toNat < y.toNat:=h1
    have h4:x.toNat≠y.toNat:=fun e=>hxy (UInt8.toNat_inj.1 e)
    show y.toNat < x.toNat
    omega
theorem hbef_trans:∀ {a b c:List UInt8},bytesBefore a b=true→bytesBefore b c=true→bytesBefore a c=true
 | [],[],_,h,_=>by simp [bytesBefore] at h
 | [],_ :: _,[],_,h=>by simp [bytesBefore] at h
 | [],_ :: _,_ :: _,_,_=>rfl
 | _ :: _,[],_,h,_=>by simp [bytesBefore] at h
 | _ :: _,_ :: _,[],_,h=>by simp [bytesBefore] at h
 | x :: r,y :: s,z :: t,h,k=>by
   simp only [bytesBefore,Bool.or_eq_true,decide_eq_true_eq,Bool.and_eq_true,beq_iff_eq] at h k ⊢
   rcases h with h | ⟨rfl,h⟩
   ·rcases k with k | ⟨rfl,k⟩
    ·left
     have h3:x.toNat < y.toNat:=h
     have h4:y.toNat < z.toNat:=k
     show x.toNat < z.toNat
     omega
    ·exact .inl h
   ·rcases k with k | ⟨rfl,k⟩
    ·exact .inl k
    ·exact .inr ⟨rfl,hbef_trans h k⟩
theorem Zj0 {a b:List UInt8} (h:bytesBefore a b=true):bytesBefore b a=false:=by
 rcases hb:bytesBefore b a with _ | _
 ·rfl
 ·have:=hbef_trans h hb
  rw [hbef_irrefl] at this
  cases this
structure Ht where
 kind:Int
 key:List UInt8
 at_:Int
 size:Int
def Ht.none:Ht:=⟨0,[],0,0⟩
def keyB (k:List UInt8):Bool:=decide (1≤k.length)&&decide (k.length≤64)
def J5 (k:Int):Bool:=decide (2≤k)&&decide (k≤4)
def Zbf (h:Ht):Bool:=J5 h.kind&&keyB h.key&&(decide (0≤h.at_)&&decide (h.at_≤1073741824))&&(decide (9≤h.size)&&decide (h.size≤8200))
theorem Zdv {h:Ht} (ha:Zbf h=true):(2≤h.kind∧h.kind≤4)∧(1≤h.key.length∧h.key.length≤64)∧(0≤h.at_∧h.at_≤1073741824)∧9≤h.size∧h.size≤8200:=by
 simp only [Zbf,J5,keyB,Bool.and_eq_true,decide_eq_true_eq] at ha
 obtain ⟨⟨⟨⟨a,b⟩,c,d⟩,e,f⟩,g,h⟩:=ha
 exact ⟨⟨a,b⟩,⟨c,d⟩,⟨e,f⟩,g,h⟩
def rightF:List UInt8→List Ht→Bool
 | _,[]=>true
 | last,h :: r=>Zbf h&&bytesBefore last h.key&&rightF h.key r
def lastK:List UInt8→List Ht→List UInt8
 | d,[]=>d
 | _,h :: r=>lastK h.key r
theorem rightF_append:∀ (d:List UInt8) (a b:List Ht),rightF d (a++b)=(rightF d a&&rightF (lastK d a) b)
 | d,[],b=>by simp [rightF,lastK]
 | d,h :: a,b=>by
   rw [List.cons_append,rightF,rightF,lastK,rightF_append h.key a b]
   simp only [Bool.and_assoc]
theorem lastK_snoc:∀ (d:List UInt8) (a:List Ht) (h:Ht),lastK d (a++[h])=h.key
 | _,[],_=>rfl
 | _,x :: a,h=>lastK_snoc x.key a h
def Zai (l:List Ht):Bool:=rightF [] l
theorem rightF_all:∀ {d:List UInt8} {l:List Ht},rightF d l=true→∀ h∈l,Zbf h=true
 | _,[],_,h,hh=>by cases hh
 | d,x :: l,hr,h,hh=>by
   rw [rightF,Bool.and_eq_true,Bool.and_eq_true] at hr
   rcases List.mem_cons.1 hh with rfl | hh
   ·exact hr.1.1
   ·exact rightF_all hr.2 h hh
def Zbg (l:List Ht):Prop:=l.Pairwise fun x y=>bytesBefore x.key y.key=true
/-! Their bytes. -/
def bodyH (h:Ht):List UInt8:=numB h.kind 1++numB h.at_ 4++numB h.size 2++h.key
theorem Zbz (h:Ht):(bodyH h).length=7+h.key.length:=by
 unfold bodyH
 simp only [List.length_append,Z1]
theorem Zg9 {h:Ht} (ha:Zbf h=true):Good (bodyH h):=by
 have:=Zdv ha
 unfold Good
 rw [Zbz]
 omega
def lastB (count size:Int) (ahead:List UInt8):List UInt8:=[7]++numB count 4++numB size 4++numB (onN tabN 0 ahead:Nat) 4
theorem Zaj (count size:Int) (ahead:List UInt8):(lastB count size ahead).length=13:=by
 unfold lastB
 simp only [List.length_append,Z1,List.length_cons,List.length_nil]
theorem Zdw (count size:Int) (ahead:List UInt8):Good (lastB count size ahead):=by
 unfold Good
 rw [Zaj]
 omega
def rowsH (l:List Ht):List UInt8:=putL (l.map bodyH)
def okS (s:Int):Bool:=decide (0≤s)&&decide (s≤1073741824)
def putH (l:List Ht) (s:Int):List UInt8:=if Zai l&&okS s then rowsH l++Z8 (lastB l.length s (rowsH l)) else []
theorem Znw {l:List Ht} {s:Int} (h:Zai l=true) (hs:okS s=true):putH l s=putL (l.map bodyH++[lastB l.length s (rowsH l)]):=by
 unfold putH
 rw [h,hs,putL_append,putL,putL,List.append_nil,Ye (Zdw _ _ _)]
 rfl
theorem Zdd {l:List Ht} {s:Int} (h:Zai l=false∨okS s=false):putH l s=[]:=by
 unfold putH
 rcases h with h | h <;> rw [h] <;> simp
theorem rowsH_length:∀ {l:List Ht},(∀ h∈l,Zbf h=true)→(rowsH l).length=(l.map fun h=>15+h.key.length).sum
 | [],_=>rfl
 | h :: l,ha=>by
   have ih:=rowsH_length (l:=l) fun x hx=>ha x (List.mem_cons_of_mem _ hx)
   unfold rowsH at ih ⊢
   rw [List.map_cons,putL,List.length_append,ih,Ye (Zg9 (ha h List.mem_cons_self)),Zl,Zbz,List.map_cons,List.sum_cons]
   omega
theorem Zk6 {l:List Ht} {s:Int} (h:Zai l=true) (hs:okS s=true):(putH l s).length=(l.map fun h=>15+h.key.length).sum+21:=by
 unfold putH
 rw [h,hs,if_pos (by rfl),List.length_append,rowsH_length (rightF_all h),Zl,Zaj]
/-! What of bytes is got. -/
def toldH (b:List UInt8):Ht:=if b.length < 7 then Ht.none else ⟨valB (b.take 1),b.drop 7,valB ((b.take 5).drop 1),valB ((b.take 7).drop 5)⟩
def getH (b:List UInt8) (s:Int):Option (List Ht) :=
 if okS s&&decide ((allB b 0).2.1=0)&&decide ((allB b 0).2.2.2=0)&&decide ((allB b 0).1.length≠0) then
  if Zai (((allB b 0).1.take ((allB b 0).1.length - 1)).map fun t=>toldH t.2.2)&&decide (((allB b 0).1.getD ((allB b 0).1.length - 1) (0,0,[])).2.2=lastB ((allB b 0).1.length - 1:Nat) s (b.take ((allB b 0).1.getD ((allB b 0).1.length - 1) (0,0,[])).1)) then
   some (((allB b 0).1.take ((allB b 0).1.length - 1)).map fun t=>toldH t.2.2)
  else none
 else none
theorem all_whole:∀ (N:Nat) (bs:List UInt8) (a:Nat),bs.length≤N→(allB bs a).2.1=0→(allB bs a).2.2.2=0 →
 bs=putL ((allB bs a).1.map fun t=>t.2.2)∧(∀ t∈(allB bs a).1,Good t.2.2)∧(allB bs a).1=itsL ((allB bs a).1.map fun t=>t.2.2) a
 | 0,bs,a,hN,_,_=>by
   have hb:bs=[]:=List.eq_nil_of_length_eq_zero (by omega)
   subst hb
   rw [Zad]
   exact ⟨rfl,fun t ht=>(by cases ht),rfl⟩
 | N+1,bs,a,hN,hp,he=>by
   by_cases hb:bs=[]
   ·subst hb
    rw [Zad]
    exact ⟨rfl,fun t ht=>(by cases ht),rfl⟩
   obtain ⟨⟨y,k,e⟩,hf⟩:∃ r,Zi bs=r:=⟨_,rfl⟩
   obtain ⟨hk,hk0,_⟩:=Yq hf
   by_cases h0:e=0
   ·subst h0
    obtain ⟨h9,hkl,hy⟩:=Zc1 hf
    have hgy:Good y:=by
     refine Classical.byContradiction fun hn=>?_
     rw [Zeb hn] at hy
     have:=congrArg List.length hy
     rw [List.length_take,List.length_nil] at this
     omega
    rw [Zc2 hb hf] at hp he ⊢
    dsimp only at hp he ⊢
    obtain ⟨h1,h2,h3⟩:=all_whole N (bs.drop k) (a+k) (by rw [List.length_drop];omega) hp he
    have hky:k=y.length+8:=by
     rw [Ye hgy] at hy
     have:=congrArg List.length hy
     rw [Zl,List.length_take] at this
     omega
    refine ⟨?_,fun t ht=>?_,?_⟩
    ·rw [List.map_cons,putL,←h1,hy,List.take_append_drop]
    ·rcases List.mem_cons.1 ht with rfl | ht
     ·exact hgy
     ·exact h2 t ht
    ·rw [List.map_cons,itsL,if_pos hgy,←hky,←h3]
   ·exfalso
    rcases hk with rfl | hk
    ·rw [Zbs hb hf h0] at he
     exact h0 he
    ·rw [Zc3 hb hf h0 (by omega)] at hp
     simp at hp
theorem all_count {b:List UInt8} (hp:(allB b 0).2.1=0) (he:(allB b 0).2.2.2=0):(allB b 0).1.length≤b.length:=by
 obtain ⟨h1,h2,h3⟩:=all_whole b.length b 0 (Nat.le_refl _) hp he
 have:=itsL_count ((allB b 0).1.map fun t=>t.2.2) 0
 rw [←h3,←h1] at this
 omega
theorem all_within {b:List UInt8} (hp:(allB b 0).2.1=0) (he:(allB b 0).2.2.2=0):∀ t∈(allB b 0).1,t.1≤b.length∧t.2.2.length≤8192:=by
 obtain ⟨h1,h2,h3⟩:=all_whole b.length b 0 (Nat.le_refl _) hp he
 intro t ht
 refine ⟨?_,(h2 t ht).2⟩
 rw [h3] at ht
 have:=itsL_sizes _ _ _ ht
 rw [←h1] at this
 omega
end Go.Proofs.YtkelafkbmnjpeaaGreat
namespace Go.Proofs.YtkelafkbmnjpeaaGreat
open Go.RowKit Go.Maps Go.Sort
theorem hless_before:∀ x y:List UInt8,Op.bytesLess x y=bytesBefore x y
 | [],[]=>by simp [Op.bytesLess,bytesBefore]
 | [],_ :: _=>by simp [Op.bytesLess,bytesBefore]
 | _ :: _,[]=>by simp [Op.bytesLess,bytesBefore]
 | x :: r,y :: s=>by
   have ih:=hless_before r s
   simp [Op.bytesLess,bytesBefore,ih]
theorem Zqf {x d:List UInt8} (h:Op.bytesLess x d=true∨(x==d)=true):bytesBefore d x=false:=by
 rcases h with h | h
 ·rw [hless_before] at h
  exact Zj0 h
 ·rw [beq_iff_eq] at h
  rw [h,hbef_irrefl]
theorem Zs1 {x d:List UInt8} (h:Op.bytesLess x d=false∧(x==d)=false):bytesBefore d x=true:=by
 rw [hless_before] at h
 exact hbef_total h.1 (by simpa using h.2)
structure Fd where
 at_:Int
 size:Int
 kind:Int
 key:List UInt8
 id:Int
 no:Int
 sz:Int
 locs:Option Addr×Nat×Nat
 b:Option Addr×Nat×Nat
def Zbe (f:Fd):Ht:=⟨f.kind,f.key,f.at_,f.size⟩
def toldF (f:Fd):Bool:=J5 f.kind&&keyB f.key
def hins (x:Ht):List Ht→List Ht
 | []=>[x]
 | y :: r=>if bytesBefore x.key y.key then x :: y :: r else y :: hins x r
def hdel (k:List UInt8) (l:List Ht):List Ht:=l.filter fun p=>!(p.key==k)
def hput (x:Ht) (l:List Ht):List Ht:=hins x (hdel x.key l)
def hfind (k:List UInt8) (l:List Ht):Option Ht:=l.find? fun p=>p.key==k
def hofP (l:List Fd):List Ht:=l.foldl (fun a f=>if toldF f=true then hput (Zbe f) a else a) []
theorem Zeh (l:List Fd) (f:Fd):hofP (l++[f])=if toldF f=true then hput (Zbe f) (hofP l) else hofP l:=by
 unfold hofP
 rw [List.foldl_append]
 rfl
theorem Zml {x y:Ht}:∀ {l:List Ht},y∈hins x l↔y=x∨y∈l
 | []=>by simp [hins]
 | z :: r=>by
   unfold hins
   split
   ·simp
   ·rw [List.mem_cons,Zml,List.mem_cons]
    constructor
    ·rintro (h | h | h)
     ·exact .inr (.inl h)
     ·exact .inl h
     ·exact .inr (.inr h)
    ·rintro (h | h | h)
     ·exact .inr (.inl h)
     ·exact .inl h
     ·exact .inr (.inr h)
theorem Zs2 {k:List UInt8} {y:Ht} {l:List Ht}:y∈hdel k l↔y∈l∧y.key≠k:=by
 unfold hdel
 rw [List.mem_filter]
 simp
theorem Zjz {x:Ht}:∀ {l:List Ht},Zbg l→(∀ y∈l,y.key≠x.key)→Zbg (hins x l)
 | [],_,_=>List.pairwise_singleton _ _
 | z :: r,h,hk=>by
   have hz:=List.pairwise_cons.1 h
   unfold hins
   split
   ·rename_i hb
    refine List.Pairwise.cons (fun y hy=>?_) h
    rcases List.mem_cons.1 hy with rfl | hy
    ·exact hb
    ·exact hbef_trans hb (hz.1 y hy)
   ·rename_i hb
    refine List.Pairwise.cons (fun y hy=>?_) (Zjz hz.2 fun y hy=>hk y (List.mem_cons_of_mem _ hy))
    rcases Zml.1 hy with rfl | hy
    ·exact hbef_total (by simpa using hb) fun e=>hk z List.mem_cons_self e.symm
    ·exact hz.1 y hy
theorem Zqg {x:Ht} {l:List Ht} (h:Zbg l):Zbg (hput x l):=Zjz (List.Pairwise.filter _ h) fun y hy=>(Zs2.1 hy).2
theorem Zs3 {l:List Ht} (h:Zbg l) {x y:Ht} (hx:x∈l) (hy:y∈l) (hk:x.key=y.key):x=y:=by
 induction l with
 | nil=>cases hx
 | cons z r ih =>
   have hz:=List.pairwise_cons.1 h
   have no:∀ u∈r,u.key≠z.key:=fun u hu e=>by
    have:=hz.1 u hu
    rw [e,hbef_irrefl] at this
    cases this
   rcases List.mem_cons.1 hx with e1 | h1 <;> rcases List.mem_cons.1 hy with e2 | h2
   ·rw [e1,e2]
   ·exact absurd (hk.symm.trans (congrArg Ht.key e1)) (no y h2)
   ·exact absurd (hk.trans (congrArg Ht.key e2)) (no x h1)
   ·exact ih hz.2 h1 h2
theorem Zfn {α:Type} {p:List α→Prop} (h0:p []) (hs:∀ l a,p l→p (l++[a])) (l:List α):p l:=by
 have:∀ n,∀ l:List α,l.length=n→p l:=by
  intro n
  induction n with
  | zero=>intro l hl;rw [List.eq_nil_of_length_eq_zero hl];exact h0
  | succ n ih =>
    intro l hl
    have hne:l≠[]:=fun e=>by rw [e] at hl;cases hl
    rw [←List.dropLast_concat_getLast hne]
    exact hs _ _ (ih _ (by rw [List.length_dropLast];omega))
 exact this _ l rfl
theorem Zs4 (l:List Fd):Zbg (hofP l):=by
 refine Zfn (p:=fun l=>Zbg (hofP l)) List.Pairwise.nil (fun l f h=>?_) l
 rw [Zeh]
 split
 ·exact Zqg h
 ·exact h
theorem Zg8 (l:List Fd):(hofP l).length≤l.length:=by
 refine Zfn (p:=fun l=>(hofP l).length≤l.length) (Nat.le_refl _) (fun l f h=>?_) l
 rw [Zeh,List.length_append,List.length_singleton]
 have hi:∀ (x:Ht) (l:List Ht),(hins x l).length=l.length+1:=by
  intro x l
  induction l with
  | nil=>rfl
  | cons y r ih =>
    unfold hins
    split
    ·rfl
    ·rw [List.length_cons,ih,List.length_cons]
 split
 ·unfold hput
  rw [hi]
  have:(hdel (Zbe f).key (hofP l)).length≤(hofP l).length:=List.length_filter_le _ _
  omega
 ·omega
theorem rise_same:∀ {a b:List Ht},Zbg a→Zbg b→(∀ h,h∈a↔h∈b)→a=b
 | [],[],_,_,_=>rfl
 | [],y :: b,_,_,h=>by have:=(h y).2 List.mem_cons_self;cases this
 | x :: a,[],_,_,h=>by have:=(h x).1 List.mem_cons_self;cases this
 | x :: a,y :: b,ha,hb,h=>by
   have h1:=List.pairwise_cons.1 ha
   have h2:=List.pairwise_cons.1 hb
   have e:x=y:=by
    rcases List.mem_cons.1 ((h x).1 List.mem_cons_self) with e | hx
    ·exact e
    ·rcases List.mem_cons.1 ((h y).2 List.mem_cons_self) with e | hy
     ·exact e.symm
     ·have k1:=h1.1 y hy
      have k2:=h2.1 x hx
      rw [Zj0 k1] at k2
      cases k2
   subst e
   have no1:∀ u∈a,u≠x:=fun u hu e=>by
    have:=h1.1 u hu
    rw [e,hbef_irrefl] at this
    cases this
   have no2:∀ u∈b,u≠x:=fun u hu e=>by
    have:=h2.1 u hu
    rw [e,hbef_irrefl] at this
    cases this
   rw [rise_same h1.2 h2.2 fun u=>⟨fun hu=>?_,fun hu=>?_⟩]
   ·rcases List.mem_cons.1 ((h u).1 (List.mem_cons_of_mem _ hu)) with e | hu'
    ·exact absurd e (no1 u hu)
    ·exact hu'
   ·rcases List.mem_cons.1 ((h u).2 (List.mem_cons_of_mem _ hu)) with e | hu'
    ·exact absurd e (no2 u hu)
    ·exact hu'
/-! Hints as values, as a map's datum. -/
section
variable {H:Type}
def htE (h:Ht):List Value:=[.int .i64 h.kind,.string ⟨h.key.toArray⟩,.int .i64 h.at_,.int .i64 h.size]
def htV (h:Ht):Value:=.agg #[.int .i64 h.kind,.string ⟨h.key.toArray⟩,.int .i64 h.at_,.int .i64 h.size]
def htD (h:Ht):DataW H:=.agg [.lit (.int .i64 h.kind),.lit (.string h.key),.lit (.int .i64 h.at_),.lit (.int .i64 h.size)]
def htR (v:Value):Option (DataW H×List MemPlace):=match v with
 | .agg cs=>match cs.toList with
   | [.int .i64 k,.string s,.int .i64 a,.int .i64 z]=>some (htD ⟨k,s.data.toList,a,z⟩,[])
   | _=>none
 | _=>none
theorem Zt4 (h:Ht):htR (H:=H) (htV h)=some (htD h,[]):=by simp [htR,htV]
theorem Zqh {v:Value} {y:DataW H×List MemPlace} (h:htR v=some y):∃ x:Ht,v=htV x∧y=(htD x,[]):=by
 unfold htR at h
 split at h
 ·rename_i cs
  split at h
  ·rename_i k s a z hc
   injection h with h
   refine ⟨⟨k,s.data.toList,a,z⟩,?_,h.symm⟩
   unfold htV
   congr 1
   rw [←Array.toArray_toList (xs:=cs),hc]
  ·cases h
 ·cases h
theorem Zqi {x y:Ht} (h:htD (H:=H) x=htD y):x=y:=by
 obtain ⟨a,b,c,d⟩:=x
 obtain ⟨a',b',c',d'⟩:=y
 unfold htD at h
 simp only [DataW.agg.injEq,List.cons.injEq,DataW.lit.injEq,Lit.int.injEq,Lit.string.injEq,and_true,true_and] at h
 obtain ⟨rfl,rfl,rfl,rfl⟩:=h
 rfl
def encH (l:List Ht):DataW H:=.map (l.map fun p=>(.string p.key,htD p))
theorem Zfo (x:Ht):∀ l:List Ht,DataW.insert (H:=H) (.string x.key,htD x) (l.map fun p=>(.string p.key,htD p))=(hins x l).map fun p=>(.string p.key,htD p)
 | []=>rfl
 | y :: r=>by
   show (if bytesBefore x.key y.key then _ else _)=_
   unfold hins
   by_cases h:bytesBefore x.key y.key=true
   ·rw [if_pos h,if_pos h];rfl
   ·rw [if_neg h,if_neg h,List.map_cons,←Zfo x r]
theorem Zs5 (x:Ht) (l:List Ht):(encH (H:=H) l).put (.string x.key) (htD x)=encH (hput x l):=by
 unfold encH DataW.put hput hdel
 simp only [List.filter_map]
 show DataW.map (DataW.insert _ (List.map _ _))=_
 rw [Zfo]
 rfl
theorem Zqj (k:List UInt8) (l:List Ht) (z:DataW H):(encH l).atKey (.string k) z=match hfind k l with
 | some x=>htD x
 | none=>z:=by
 unfold encH DataW.atKey hfind
 simp only [List.find?_map]
 have:((fun p:Lit×DataW H=>p.1.sameKey (.string k))∘fun p:Ht=>((Lit.string p.key,htD p):Lit×DataW H))=fun p=>p.key==k:=rfl
 rw [this]
 cases List.find? (fun p:Ht=>p.key==k) l <;> rfl
theorem Zqk (l:List Ht):Maps.size (encH (H:=H) l)=l.length:=by simp [encH,Maps.size]
theorem Zql (l:List Ht):strKeys (encH (H:=H) l)=l.map (·.key):=by
 simp only [encH,strKeys,List.map_map]
 rfl
end
end Go.Proofs.YtkelafkbmnjpeaaGreat
namespace Go.Proofs.YtkelafkbmnjpeaaGreat
def Rise (l:List Int):Prop:=l.Pairwise (· < ·)
theorem Zd5 (d:Array Int) (hs:∀ i j,i < j→j < d.size→d[i]! ≤ d[j]!):∀ m,m≤d.size →
 Rise (Lib.compactUpTo d m)∧(∀ x∈Lib.compactUpTo d m,∃ j,j < m∧d[j]! = x)∧(∀ j,j < m→d[j]! ∈ Lib.compactUpTo d m)
 | 0,_=>⟨List.Pairwise.nil,fun x hx=>by simp [Lib.compactUpTo] at hx,fun j hj=>by omega⟩
 | m+1,hm=>by
   obtain ⟨h1,h2,h3⟩:=Zd5 d hs m (by omega)
   rw [Lib.compactUpTo_succ]
   by_cases hk:Lib.keeps d m=true
   ·rw [if_pos hk]
    refine ⟨List.pairwise_append.2 ⟨h1,List.pairwise_singleton _ _,fun x hx y hy=>?_⟩,fun x hx=>?_,fun j hj=>?_⟩
    ·rw [List.mem_singleton] at hy
     subst hy
     obtain ⟨j,hj,rfl⟩:=h2 x hx
     have hk':=of_decide_eq_true hk
     rcases hk' with e | hne
     ·omega
     ·have a1:=hs (m - 1) m (by omega) (by omega)
      rcases Nat.lt_or_ge j (m - 1) with hlt | hge
      ·have a2:=hs j (m - 1) hlt (by omega)
       omega
      ·obtain rfl:j=m - 1:=by omega
       omega
    ·rcases List.mem_append.1 hx with hx | hx
     ·obtain ⟨j,hj,e⟩:=h2 x hx
      exact ⟨j,by omega,e⟩
     ·rw [List.mem_singleton] at hx
      exact ⟨m,by omega,hx.symm⟩
    ·rcases Nat.lt_or_ge j m with hlt | hge
     ·exact List.mem_append.2 (.inl (h3 j hlt))
     ·obtain rfl:j=m:=by omega
      exact List.mem_append.2 (.inr (List.mem_singleton.2 rfl))
   ·rw [if_neg hk,List.append_nil]
    refine ⟨h1,fun x hx=>?_,fun j hj=>?_⟩
    ·obtain ⟨j,hj,e⟩:=h2 x hx
     exact ⟨j,by omega,e⟩
    ·rcases Nat.lt_or_ge j m with hlt | hge
     ·exact h3 j hlt
     ·obtain rfl:j=m:=by omega
      have hk':¬ (j=0∨d[j]! ≠ d[j - 1]!):=fun h=>hk (decide_eq_true h)
      have e:d[j]! = d[j - 1]! := Classical.byContradiction fun h=>hk' (.inr h)
      rw [e]
      have hj0:j≠0:=fun h=>hk' (.inl h)
      exact h3 (j - 1) (by omega)
def setP (xs:List Int):List Int:=Lib.compact (xs.mergeSort fun x y=>decide (x≤y))
theorem Zmm (xs:List Int):Rise (setP xs)∧∀ x,x∈setP xs↔x∈xs:=by
 have hsort:=List.pairwise_mergeSort (le:=fun x y:Int=>decide (x≤y)) (fun a b c h1 h2=>by have:=of_decide_eq_true h1;have:=of_decide_eq_true h2;exact decide_eq_true (by omega)) (fun a b=>by
  rcases Int.le_total a b with h | h
  ·simp [h]
  ·simp [h]) xs
 have hperm:=List.mergeSort_perm xs fun x y:Int=>decide (x≤y)
 unfold setP Lib.compact
 generalize xs.mergeSort (fun x y:Int=>decide (x≤y))=zs at *
 have hget:∀ j,j < zs.length→zs.toArray[j]! = zs[j]! := fun j hj=>by simp [hj]
 have hs:∀ i j,i < j→j < zs.toArray.size→zs.toArray[i]! ≤ zs.toArray[j]! := fun i j hij hj=>by
  have hj':j < zs.length:=by simpa using hj
  have:=List.pairwise_iff_getElem.1 hsort i j (by omega) hj' hij
  have:=of_decide_eq_true this
  simpa [hj',show i < zs.length by omega] using this
 obtain ⟨h1,h2,h3⟩:=Zd5 zs.toArray hs zs.length (by simp)
 refine ⟨h1,fun x=>⟨fun hx=>?_,fun hx=>?_⟩⟩
 ·obtain ⟨j,hj,e⟩:=h2 x hx
  refine hperm.mem_iff.1 ?_
  rw [←e]
  simp [hj]
 ·obtain ⟨j,hj,e⟩:=List.getElem_of_mem (hperm.mem_iff.2 hx)
  have:=h3 j hj
  simpa [hj,e] using this
theorem Znx (xs:List Int):(setP xs).length≤xs.length:=by
 unfold setP
 exact Nat.le_trans (Lib.compact_length_le _) (by rw [List.length_mergeSort];exact Nat.le_refl _)
def segP (s:List UInt8):Option Int :=
 match parseP s with
 | some (k,n)=>if k=1 then some n else none
 | none=>none
theorem Zvk (s:List UInt8) (x:Int):segP s=some x↔parseP s=some (1,x):=by
 unfold segP
 cases h:parseP s with
 | none=>simp
 | some p =>
   obtain ⟨k,n⟩:=p
   simp only [Option.some.injEq,Prod.mk.injEq]
   constructor
   ·intro h
    split at h
    ·rename_i hk
     exact ⟨hk,Option.some.inj h⟩
    ·cases h
   ·rintro ⟨rfl,rfl⟩
    rw [if_pos rfl]
def numsP (l:List (List UInt8)):List Int:=l.filterMap segP
theorem Zk7 (l:List (List UInt8)):(numsP l).length≤l.length:=List.length_filterMap_le _ _
theorem Zk8 (a b:List (List UInt8)):numsP (a++b)=numsP a++numsP b:=List.filterMap_append
theorem Zs6 (l:List (List UInt8)) (x:Int):x∈numsP l↔∃ s∈l,parseP s=some (1,x):=by
 unfold numsP
 rw [List.mem_filterMap]
 simp only [Zvk]
end Go.Proofs.YtkelafkbmnjpeaaGreat
