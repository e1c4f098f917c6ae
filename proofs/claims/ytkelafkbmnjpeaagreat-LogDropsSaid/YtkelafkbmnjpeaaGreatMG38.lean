/-
  Texts that the statements lean on, one behind the other.
-/
import Derived.Test.YtkelafkbmnjpeaaGreatMG23
import Derived.Test.YtkelafkbmnjpeaaGreatMG33
import Derived.Test.YtkelafkbmnjpeaaGreatMG10
import Derived.Test.YtkelafkbmnjpeaaGreatMG09
import Derived.Test.YtkelafkbmnjpeaaGreatMG35
set_option linter.unusedVariables false
namespace Go.Proofs.YtkelafkbmnjpeaaGreat
open Go.RowKit
def vw (m:Dk) (n:Nm):Option (List UInt8):=(Dir.find n m.names).map fun f=>(m.files f).bytes
structure FI (m:Dk):Prop where
 lt:∀ n f,Dir.find n m.names=some f→f < m.made
 inj:∀ n n' f,Dir.find n m.names=some f→Dir.find n' m.names=some f→n=n'
structure Live (m:Dk):Prop where
 down:m.down=false
 cut:m.cut < 0
theorem Well.live {m:Dk} (h:Well m):Live m:=⟨h.down,h.cut⟩
def SameV (m m':Dk):Prop:=∀ x,vw m' x=vw m x
theorem SameV.refl (m:Dk):SameV m m:=fun _=>rfl
section
variable {m m':Dk} {n to:Nm} {b:List UInt8}
theorem Zj2 (h:vw m n=some b):∃ f,Dir.find n m.names=some f∧(m.files f).bytes=b:=by
 unfold vw at h
 cases hf:Dir.find n m.names with
 | none=>rw [hf] at h;cases h
 | some f=>rw [hf] at h;injection h with h;exact ⟨f,rfl,h⟩
theorem Zta {f:Nat} (h:Dir.find n m.names=some f):vw m n=some (m.files f).bytes:=by unfold vw;rw [h];rfl
theorem vw_none:vw m n=none↔Dir.find n m.names=none:=by
 unfold vw
 cases Dir.find n m.names with
 | none=>exact ⟨fun _=>rfl,fun _=>rfl⟩
 | some f=>exact ⟨fun h=>(by cases h),fun h=>(by cases h)⟩
theorem vw_of (h1:m'.names=m.names) (h2:m'.files=m.files):SameV m m':=fun x=>by unfold vw;rw [h1,h2]
theorem FI.of (h:FI m) (h1:m'.names=m.names) (h2:m'.made=m.made):FI m':=⟨fun n f hf=>by rw [h2];rw [h1] at hf;exact h.lt n f hf,fun n n' f hf hf'=>by rw [h1] at hf hf';exact h.inj n n' f hf hf'⟩
theorem Yq (m:Dk) (n:Nm):m.size n=match vw m n with
 | some b=>((b.length:Int),true)
 | none=>(0,false):=by
 unfold Dk.size vw
 cases Dir.find n m.names <;> rfl
theorem Zbx (hd:m.down=false) (x k:Int):m.read n x k=match vw m n with
 | some b=>if x < 0∨k < 0∨(b.length:Int) < x∨(b.length:Int) - x < k then (none,1) else (some ((b.drop x.toNat).take k.toNat),0)
 | none=>(none,3):=by
 unfold Dk.read vw
 rw [if_neg (by rw [hd];decide)]
 cases Dir.find n m.names <;> rfl
theorem Zj3 (hd:m.down=false) (h:vw m n=some b):m.read n 0 (m.size n).1=(some b,0):=by
 rw [Zbx hd,Yq,h]
 dsimp only
 rw [if_neg (by omega)]
 have e:(List.length b:Int).toNat=b.length:=Int.toNat_natCast _
 rw [e,show (0:Int).toNat=0 from rfl,List.drop_zero,List.take_length]
theorem FI.new (y:Int):FI (Dk.new y):=⟨fun n f h=>(by cases h),fun n n' f h=>(by cases h)⟩
theorem Zv5 (y:Int) (n:Nm):vw (Dk.new y) n=none:=rfl
theorem Zpq {x:Int} (h:x < 0):sooner x=x:=by unfold sooner;rw [if_neg (by omega)]
theorem J9 (hl:Live m) (does:Dk→Dk) (hd:∀ x:Dk,(does x).down=x.down∧(does x).cut=x.cut) :
 Live (m.thing does).1∧(((m.thing does).2=0∧(m.thing does).1=(does m.sooner).bump)∨((m.thing does).2≠0∧¬ Well m∧Like m (m.thing does).1)):=by
 have hc:=hl.cut
 have hs:m.sooner.cut=m.cut:=Zpq hc
 by_cases hf:m.fail=0
 ·rw [Zua hl.down (by omega) hf]
  exact ⟨⟨hl.down,by show m.sooner.cut < 0;omega⟩,.inr ⟨show (81:Int)≠0 by omega,fun h=>by have:=h.fail;omega,⟨rfl,rfl,rfl,rfl,rfl,rfl,rfl⟩⟩⟩
 ·rw [Zt9 hl.down (by omega) hf]
  refine ⟨⟨?_,?_⟩,.inl ⟨rfl,rfl⟩⟩
  ·show (does m.sooner).down=false;rw [(hd _).1];exact hl.down
  ·show (does m.sooner).cut < 0;rw [(hd _).2,hs];exact hc
/-! What is done. -/
theorem Zef (hi:FI m) (hn:vw m n=none):FI (m.doCreate n)∧∀ x,vw (m.doCreate n) x=if x=n then some [] else vw m x:=by
 have hp:(m.doCreate n).names=Dir.put n m.made m.names:=rfl
 have hfs:(m.doCreate n).files=fun j=>if j=m.made then (⟨[],0⟩:Fl) else m.files j:=rfl
 have key:∀ x,Dir.find x (m.doCreate n).names=if x=n then some m.made else Dir.find x m.names:=by
  intro x
  rw [hp]
  by_cases e:x=n
  ·rw [if_pos e,e];exact Zbk _ _ _
  ·rw [if_neg e];exact Zda e _
 refine ⟨⟨fun x f hf=>?_,fun x y f hf hf'=>?_⟩,fun x=>?_⟩
 ·show f < m.made+1
  rw [key] at hf
  split at hf
  ·injection hf with hf;omega
  ·have:=hi.lt x f hf;omega
 ·rw [key] at hf hf'
  split at hf
  ·injection hf with hf
   split at hf'
   ·rename_i e1 e2;rw [e1,e2]
   ·have:=hi.lt y f hf';omega
  ·split at hf'
   ·injection hf' with hf'
    have:=hi.lt x f hf;omega
   ·exact hi.inj x y f hf hf'
 ·unfold vw
  rw [key]
  by_cases e:x=n
  ·rw [if_pos e,if_pos e,hfs]
   show some (if m.made=m.made then (⟨[],0⟩:Fl) else _).bytes=_
   rw [if_pos rfl]
  ·rw [if_neg e,if_neg e]
   cases hf:Dir.find x m.names with
   | none=>rfl
   | some f =>
     rw [hfs]
     show some (if f=m.made then (⟨[],0⟩:Fl) else m.files f).bytes=_
     rw [if_neg (by have:=hi.lt x f hf;omega)]
     rfl
theorem Zeg (hi:FI m) {f:Nat} (hf:Dir.find n m.names=some f):FI (m.doAppend f b)∧∀ x,vw (m.doAppend f b) x=if x=n then some ((m.files f).bytes++b) else vw m x:=by
 refine ⟨hi.of rfl rfl,fun x=>?_⟩
 have hfs:(m.doAppend f b).files=fun j=>if j=f then (⟨(m.files f).bytes++b,(m.files f).kept⟩:Fl) else m.files j:=rfl
 unfold vw
 rw [show (m.doAppend f b).names=m.names from rfl]
 by_cases e:x=n
 ·rw [if_pos e,e,hf,hfs]
  show some (if f=f then (⟨(m.files f).bytes++b,(m.files f).kept⟩:Fl) else _).bytes=_
  rw [if_pos rfl]
 ·rw [if_neg e]
  cases hx:Dir.find x m.names with
  | none=>rfl
  | some g =>
    rw [hfs]
    show some (if g=f then (⟨(m.files f).bytes++b,(m.files f).kept⟩:Fl) else m.files g).bytes=_
    rw [if_neg fun e2:g=f=>e (hi.inj x n f (by rw [←e2];exact hx) hf)]
    rfl
theorem Zhh (hi:FI m) (f:Nat):FI (m.doSync f)∧SameV m (m.doSync f):=by
 refine ⟨hi.of rfl rfl,fun x=>?_⟩
 unfold vw
 rw [show (m.doSync f).names=m.names from rfl]
 cases hx:Dir.find x m.names with
 | none=>rfl
 | some g =>
   show some (if g=f then (⟨(m.files f).bytes,(m.files f).bytes.length⟩:Fl) else m.files g).bytes=_
   by_cases e:g=f
   ·rw [if_pos e,e];rfl
   ·rw [if_neg e];rfl
theorem Zeh (hi:FI m) (f:Nat):FI (m.doRemove f n)∧∀ x,vw (m.doRemove f n) x=if x=n then none else vw m x:=by
 have key:∀ x,Dir.find x (m.doRemove f n).names=if x=n then none else Dir.find x m.names:=by
  intro x
  show Dir.find x (Dir.del n m.names)=_
  by_cases e:x=n
  ·rw [if_pos e,e];exact Zdx _ _
  ·rw [if_neg e];exact Jj e _
 refine ⟨⟨fun x g hg=>?_,fun x y g hg hg'=>?_⟩,fun x=>?_⟩
 ·rw [key] at hg
  split at hg
  ·cases hg
  ·exact hi.lt x g hg
 ·rw [key] at hg hg'
  split at hg
  ·cases hg
  ·split at hg'
   ·cases hg'
   ·exact hi.inj x y g hg hg'
 ·unfold vw
  rw [key]
  by_cases e:x=n
  ·rw [if_pos e,if_pos e];rfl
  ·rw [if_neg e,if_neg e];rfl
theorem Zei (hi:FI m) {f:Nat} (hf:Dir.find n m.names=some f) (hne:to≠n):FI (m.doRename n to)∧∀ x,vw (m.doRename n to) x=if x=to then some (m.files f).bytes else if x=n then none else vw m x:=by
 have key:∀ x,Dir.find x (m.doRename n to).names=if x=to then some f else if x=n then none else Dir.find x m.names:=by
  intro x
  show Dir.find x (match Dir.find n m.names with | some f=>Dir.put to f (Dir.del n m.names) | none=>m.names)=_
  rw [hf]
  dsimp only
  by_cases e:x=to
  ·rw [if_pos e,e];exact Zbk _ _ _
  ·rw [if_neg e,Zda e]
   by_cases e2:x=n
   ·rw [if_pos e2,e2];exact Zdx _ _
   ·rw [if_neg e2];exact Jj e2 _
 refine ⟨⟨fun x g hg=>?_,fun x y g hg hg'=>?_⟩,fun x=>?_⟩
 ·rw [key] at hg
  show g < m.made
  split at hg
  ·injection hg with hg;rw [←hg];exact hi.lt n f hf
  ·split at hg
   ·cases hg
   ·exact hi.lt x g hg
 ·rw [key] at hg hg'
  by_cases e1:x=to
  ·rw [if_pos e1] at hg
   injection hg with hg
   subst hg
   by_cases e2:y=to
   ·rw [e1,e2]
   ·rw [if_neg e2] at hg'
    by_cases e3:y=n
    ·rw [if_pos e3] at hg';cases hg'
    ·rw [if_neg e3] at hg';exact absurd (hi.inj y n f hg' hf) e3
  ·rw [if_neg e1] at hg
   by_cases e3:x=n
   ·rw [if_pos e3] at hg;cases hg
   ·rw [if_neg e3] at hg
    by_cases e2:y=to
    ·rw [if_pos e2] at hg'
     injection hg' with hg'
     subst hg'
     exact absurd (hi.inj x n f hg hf) e3
    ·rw [if_neg e2] at hg'
     by_cases e4:y=n
     ·rw [if_pos e4] at hg';cases hg'
     ·rw [if_neg e4] at hg'
      exact hi.inj x y g hg hg'
 ·unfold vw
  rw [key]
  by_cases e:x=to
  ·rw [if_pos e,if_pos e];rfl
  ·rw [if_neg e,if_neg e]
   by_cases e2:x=n
   ·rw [if_pos e2,if_pos e2];rfl
   ·rw [if_neg e2,if_neg e2];rfl
theorem FI.soon (h:FI m):FI m.sooner:=h.of rfl rfl
/-! The calls. -/
theorem FI.like (h:FI m) (hl:Like m m'):FI m'∧SameV m m':=⟨h.of hl.names hl.made,vw_of hl.names hl.files⟩
theorem Zby (hi:FI m) (hl:Live m) (n:Nm):Live (m.create n).1∧FI (m.create n).1 ∧
 (((m.create n).2=0∧vw m n=none∧∀ x,vw (m.create n).1 x=if x=n then some [] else vw m x)∨((m.create n).2≠0∧SameV m (m.create n).1)):=by
 unfold Dk.create
 rw [if_neg (by rw [hl.down];decide)]
 split
 ·exact ⟨hl,hi,.inr ⟨by simp,SameV.refl _⟩⟩
 split
 ·exact ⟨hl,hi,.inr ⟨by simp,SameV.refl _⟩⟩
 split
 ·exact ⟨hl,hi,.inr ⟨by simp,SameV.refl _⟩⟩
 rename_i h1 h2 h3
 have hn:Dir.find n m.names=none:=by cases hf:Dir.find n m.names with | none=>rfl | some f=>rw [hf] at h2;exact absurd rfl h2
 obtain ⟨k1,k2 | k2⟩:=J9 hl (Dk.doCreate n) fun x=>⟨rfl,rfl⟩
 ·refine ⟨k1,?_⟩
  obtain ⟨k3,k4⟩:=Zef (n:=n) hi.soon (vw_none.2 hn)
  rw [k2.2]
  exact ⟨k3.of rfl rfl,.inl ⟨k2.1,vw_none.2 hn,fun x=>k4 x⟩⟩
 ·obtain ⟨k3,k4⟩:=hi.like k2.2.2
  exact ⟨k1,k3,.inr ⟨k2.1,k4⟩⟩
theorem Zar (hi:FI m) (hl:Live m) (n:Nm) (b:List UInt8):Live (m.append n b).1∧FI (m.append n b).1 ∧
 (((m.append n b).2=0∧∃ old,vw m n=some old∧∀ x,vw (m.append n b).1 x=if x=n then some (old++b) else vw m x)∨((m.append n b).2≠0∧SameV m (m.append n b).1)):=by
 unfold Dk.append
 rw [if_neg (by rw [hl.down];decide)]
 split
 ·exact ⟨hl,hi,.inr ⟨by simp,SameV.refl _⟩⟩
 rename_i f hf
 split
 ·exact ⟨hl,hi,.inr ⟨by simp,SameV.refl _⟩⟩
 obtain ⟨k1,k2 | k2⟩:=J9 hl (Dk.doAppend f b) fun x=>⟨rfl,rfl⟩
 ·refine ⟨k1,?_⟩
  obtain ⟨k3,k4⟩:=Zeg (n:=n) (b:=b) hi.soon hf
  rw [k2.2]
  exact ⟨k3.of rfl rfl,.inl ⟨k2.1,_,Zta hf,fun x=>k4 x⟩⟩
 ·obtain ⟨k3,k4⟩:=hi.like k2.2.2
  exact ⟨k1,k3,.inr ⟨k2.1,k4⟩⟩
theorem Zhi (hi:FI m) (hl:Live m) (n:Nm):Live (m.sync n).1∧FI (m.sync n).1∧SameV m (m.sync n).1:=by
 unfold Dk.sync
 rw [if_neg (by rw [hl.down];decide)]
 split
 ·exact ⟨hl,hi,SameV.refl _⟩
 rename_i f hf
 obtain ⟨k1,k2 | k2⟩:=J9 hl (Dk.doSync f) fun x=>⟨rfl,rfl⟩
 ·refine ⟨k1,?_⟩
  obtain ⟨k3,k4⟩:=Zhh hi.soon f
  rw [k2.2]
  exact ⟨k3.of rfl rfl,fun x=>k4 x⟩
 ·exact ⟨k1,hi.like k2.2.2⟩
theorem Zhj (hi:FI m) (hl:Live m) (n to:Nm):Live (m.rename n to).1∧FI (m.rename n to).1 ∧
 (((m.rename n to).2=0∧to≠n∧∃ old,vw m n=some old∧∀ x,vw (m.rename n to).1 x=if x=to then some old else if x=n then none else vw m x)∨((m.rename n to).2≠0∧SameV m (m.rename n to).1)):=by
 unfold Dk.rename
 rw [if_neg (by rw [hl.down];decide)]
 split
 ·exact ⟨hl,hi,.inr ⟨by simp,SameV.refl _⟩⟩
 rename_i f hf
 split
 ·exact ⟨hl,hi,.inr ⟨by simp,SameV.refl _⟩⟩
 rename_i hr
 have hne:to≠n:=fun e=>hr (.inr e)
 obtain ⟨k1,k2 | k2⟩:=J9 hl (Dk.doRename n to) fun x=>⟨rfl,rfl⟩
 ·refine ⟨k1,?_⟩
  obtain ⟨k3,k4⟩:=Zei (to:=to) hi.soon hf hne
  rw [k2.2]
  exact ⟨k3.of rfl rfl,.inl ⟨k2.1,hne,_,Zta hf,fun x=>k4 x⟩⟩
 ·obtain ⟨k3,k4⟩:=hi.like k2.2.2
  exact ⟨k1,k3,.inr ⟨k2.1,k4⟩⟩
theorem Zhk (hi:FI m) (hl:Live m) (n:Nm):Live (m.remove n).1∧FI (m.remove n).1 ∧
 (((m.remove n).2=0∧∀ x,vw (m.remove n).1 x=if x=n then none else vw m x)∨((m.remove n).2≠0∧SameV m (m.remove n).1)):=by
 unfold Dk.remove
 rw [if_neg (by rw [hl.down];decide)]
 split
 ·exact ⟨hl,hi,.inr ⟨by simp,SameV.refl _⟩⟩
 rename_i f hf
 obtain ⟨k1,k2 | k2⟩:=J9 hl (Dk.doRemove f n) fun x=>⟨rfl,rfl⟩
 ·refine ⟨k1,?_⟩
  obtain ⟨k3,k4⟩:=Zeh (n:=n) hi.soon f
  rw [k2.2]
  exact ⟨k3.of rfl rfl,.inl ⟨k2.1,fun x=>k4 x⟩⟩
 ·obtain ⟨k3,k4⟩:=hi.like k2.2.2
  exact ⟨k1,k3,.inr ⟨k2.1,k4⟩⟩
theorem Zfh (hi:FI m) (hl:Live m):Live m.syncDir.1∧FI m.syncDir.1∧SameV m m.syncDir.1:=by
 obtain ⟨k1,k2 | k2⟩:=J9 hl (fun m=>m.keep m.pend.length) fun x=>⟨rfl,rfl⟩
 ·refine ⟨k1,?_⟩
  show FI (m.thing _).1∧SameV m (m.thing _).1
  rw [k2.2]
  exact ⟨hi.of rfl rfl,vw_of rfl rfl⟩
 ·exact ⟨k1,hi.like k2.2.2⟩
theorem Zfi (hi:FI m) (hl:Live m) (x:Int):Live (m.setFail x)∧FI (m.setFail x)∧SameV m (m.setFail x):=⟨⟨hl.down,hl.cut⟩,hi.of rfl rfl,vw_of rfl rfl⟩
end
structure SI (m:Dk) (a b:List Rc) (k:Nat):Prop where
 w:∃ U,SgW m U∧U≤26+8200*k
 one:Sg m 1 0 a
 two:Sg m 2 1 b
 ok:DkOk (100+8200*k) m
section
variable {m:Dk} {a b:List Rc} {k:Nat}
end
theorem Zi1 {b:List UInt8} (more:List UInt8):(Yf b++more).take 4=headB b.length:=by
 unfold Yf
 simp only [List.append_assoc]
 exact List.take_left' (by simp [headB])
theorem Zm0 {b:List UInt8}:(Yf b).take 4=headB b.length:=by
 have:=Zi1 (b:=b) []
 rwa [List.append_nil] at this
theorem Zw3 {m:Dk} {n:Int} {x:Nat} {r:Rc} {more:List UInt8} {bs:List UInt8} (hr:Zp r) (hread:∀ a k,a+k≤bs.length→m.read (nmS n) (a:Nat) (k:Nat)=(some ((bs.drop a).take k),0)) (hx:bs.drop x=frS r++more) (hxl:x≤bs.length):getP m n x=(r,0):=by
 have hb:=Zju hr
 have hlen:bs.length=x+((frS r).length+more.length):=by
  have:=congrArg List.length hx
  rw [List.length_drop,List.length_append] at this
  omega
 have hf:(frS r).length=(putR r).length+8:=by rw [Zco hr,Zh]
 have r4:=hread x 4 (by omega)
 have rf:=hread x ((putR r).length+8) (by omega)
 rw [hx,Zco hr] at r4 rf
 rw [Zi1] at r4
 rw [List.take_left' (Zh _)] at rf
 have h21:(Zi (headB (putR r).length)).2.2=21:=by
  have:=Zgo (putR r) hb.1 hb.2 4 (by omega)
  rw [Zm0] at this
  rw [this]
 have ht:toldN (headB (putR r).length)=(putR r).length:=by
  have:=Zgn (putR r).length hb.2 []
  rwa [List.append_nil] at this
 have hs:sizeN ((putR r).length:Int)=(((putR r).length+8:Nat):Int):=by
  unfold sizeN
  rw [if_pos (by omega)]
  omega
 have hfp:J2 m n x=(some (Yf (putR r)),0):=by
  unfold J2
  rw [show (4:Int)=((4:Nat):Int) from rfl,r4]
  simp only [Option.getD_some]
  rw [if_pos trivial,if_pos h21,ht,hs,rf]
  rfl
 have hfb:=Zes (putR r) [] hb.1 hb.2
 rw [List.append_nil] at hfb
 unfold getP
 rw [hfp]
 simp only [Option.getD_some]
 rw [hfb]
 simp only [Zrz hr,Option.isSome_some,Option.getD_some,if_true]
theorem Ztb (n:Int) (us:List Rc) (r:Rc) (bs:List Rc):(segB n (us++r :: bs)).drop (13+(Yp us).length)=frS r++Yp bs:=by
 have h1:segB n (us++r :: bs)=segB n us++(frS r++Yp bs):=by
  unfold segB Yp frS
  rw [List.map_append,←List.cons_append,putL_append,List.map_cons]
  rfl
 rw [h1]
 exact List.drop_left' (Yg n us)
section
variable {m:Dk} {U:Nat} {n:Int} {f:Nat}
theorem Ztc {n:Int} (hn:0≤n∧n≤99999999):right (nmS n)=true:=by
 have h1:=Znz hn
 have h2:=Yx n
 rw [ByteArray.toList_eq] at h1
 have h3:(nmS n)≠[]:=fun e=>by
  have:(nmS n).isEmpty=false:=by simpa using h1
  rw [e] at this
  cases this
 have h4:1≤(nmS n).length:=by
  cases hc:nmS n with
  | nil=>exact absurd hc h3
  | cons x l=>simp
 unfold right
 rw [decide_eq_true h4,decide_eq_true h2]
 rfl
def B1 (n:Int):Dk:=(makeP A0 n).1
theorem Ztd (n:Int):(putB (Zw n)).length=13:=by rw [Yd (Ze5 n),Zh,Yi]
end
structure SB (m:Dk) (n:Int) (a:List Rc) (k:Nat):Prop where
 w:∃ U,SgW m U∧U≤13+8200*k
 sg:Sg m n 0 a
 ok:DkOk (8202+8200*k) m
 len:(segB n a).length≤13+8200*k
section
variable {m:Dk} {n:Int} {a:List Rc} {k:Nat}
end
theorem foundL_at:∀ (rs:List Rc) (i a:Nat) (x:Fn),(foundL rs a)[i]?=some x→∃ us r bs,rs=us++r :: bs∧us.length=i∧x=(a+(Yp us).length,(frS r).length,r)
 | [],_,_,_,h=>by cases h
 | r :: rs,0,a,x,h=>⟨[],r,rs,rfl,rfl,by
     simp only [foundL,List.getElem?_cons_zero,Option.some.injEq] at h
     rw [←h]
     rfl⟩
 | r :: rs,i+1,a,x,h=>by
   simp only [foundL,List.getElem?_cons_succ] at h
   obtain ⟨us,r',bs,h1,h2,h3⟩:=foundL_at rs i _ x h
   refine ⟨r :: us,r',bs,by rw [h1];rfl,by rw [List.length_cons,h2],?_⟩
   rw [h3]
   have e:(Yp (r :: us)).length=(frS r).length+(Yp us).length:=by
    show (putB (putR r)++putL (us.map putR)).length=_
    rw [List.length_append]
    rfl
   rw [e,Nat.add_assoc]
structure WS (m:Dk) (U N:Nat):Prop where
 well:Well m
 fi:FI m
 most:m.most=4194304
 used:-(U:Int)≤m.used∧m.used≤U
 names:m.names.length≤N
section
variable {m:Dk} {U N U' N':Nat} {n to:Nm} {b old:List UInt8}
theorem WS.mono (h:WS m U N) (hU:U≤U') (hN:N≤N'):WS m U' N':=⟨h.well,h.fi,h.most,by have:=h.used;omega,Nat.le_trans h.names hN⟩
theorem WS.create (h:WS m U N) (hr:right n=true) (hv:vw m n=none) (hN:N < 4096):(m.create n).2=0∧WS (m.create n).1 U (N+1)∧∀ x,vw (m.create n).1 x=if x=n then some [] else vw m x:=by
 have e:=h.well.create hr (vw_none.1 hv) (by have:=h.names;omega)
 obtain ⟨k1,k2⟩:=Zef h.fi hv
 rw [e]
 refine ⟨rfl,⟨⟨h.well.down,h.well.cut,h.well.fail⟩,k1.of rfl rfl,h.most,h.used,?_⟩,fun x=>k2 x⟩
 show (Dir.put n m.made m.names).length≤_
 have:=Zcs (.made n m.made) m.names
 have h2:((Ch.made n m.made).on m.names).length=(Dir.put n m.made m.names).length:=rfl
 have:=h.names
 omega
theorem WS.append (h:WS m U N) (hv:vw m n=some old) (hU:U+b.length≤4194304):(m.append n b).2=0∧WS (m.append n b).1 (U+b.length) N∧∀ x,vw (m.append n b).1 x=if x=n then some (old++b) else vw m x:=by
 obtain ⟨f,hf,hb⟩:=Zj2 hv
 have hu:=h.used
 have hw:wrap64 (m.used+b.length)=m.used+b.length:=IntWalk.wrap64_in _ (by omega)
 have e:=h.well.append hf (b:=b) (by rw [hw,h.most];omega)
 obtain ⟨k1,k2⟩:=Zeg (b:=b) h.fi hf
 rw [e]
 refine ⟨rfl,⟨⟨h.well.down,h.well.cut,h.well.fail⟩,k1.of rfl rfl,h.most,?_,h.names⟩,fun x=>by rw [←hb];exact k2 x⟩
 show -((U+b.length:Nat):Int)≤wrap64 (m.used+b.length)∧wrap64 (m.used+b.length)≤((U+b.length:Nat):Int)
 rw [hw]
 omega
theorem WS.sync (h:WS m U N) (hv:vw m n=some old):(m.sync n).2=0∧WS (m.sync n).1 U N∧SameV m (m.sync n).1:=by
 obtain ⟨f,hf,hb⟩:=Zj2 hv
 have e:=h.well.sync hf
 obtain ⟨k1,k2⟩:=Zhh h.fi f
 rw [e]
 exact ⟨rfl,⟨⟨h.well.down,h.well.cut,h.well.fail⟩,k1.of rfl rfl,h.most,h.used,h.names⟩,fun x=>k2 x⟩
theorem WS.rename {s:Nat} (h:WS m U N) (hv:vw m n=some old) (hr:right to=true) (hne:to≠n) (hs:∀ b,vw m to=some b→b.length≤s) (hU:U+s≤1000000000):(m.rename n to).2=0∧WS (m.rename n to).1 (U+s) (N+1)∧∀ x,vw (m.rename n to).1 x=if x=to then some old else if x=n then none else vw m x:=by
 obtain ⟨f,hf,hb⟩:=Zj2 hv
 have hu:=h.used
 have hz:0≤(m.size to).1∧(m.size to).1≤s:=by
  rw [Yq]
  cases hv2:vw m to with
  | none=>exact ⟨Int.le_refl _,Int.natCast_nonneg _⟩
  | some c=>have:=hs c hv2;exact ⟨Int.natCast_nonneg _,by show (c.length:Int)≤s;omega⟩
 have hw:wrap64 (m.used - (m.size to).1)=m.used - (m.size to).1:=IntWalk.wrap64_in _ (by omega)
 have e:=h.well.rename hf hr hne
 obtain ⟨k1,k2⟩:=Zei (to:=to) h.fi hf hne
 rw [e]
 refine ⟨rfl,⟨⟨h.well.down,h.well.cut,h.well.fail⟩,k1.of rfl rfl,h.most,?_,?_⟩,fun x=>by rw [←hb];exact k2 x⟩
 ·show -((U+s:Nat):Int)≤wrap64 (m.used - (m.size to).1)∧wrap64 (m.used - (m.size to).1)≤((U+s:Nat):Int)
  rw [hw]
  omega
 ·show ((Ch.moved n to).on m.names).length≤_
  have:=Zcs (.moved n to) m.names
  have:=h.names
  omega
theorem WS.syncDir (h:WS m U N):m.syncDir.2=0∧WS m.syncDir.1 U N∧SameV m m.syncDir.1:=by
 have e:=h.well.syncDir
 rw [e]
 exact ⟨rfl,⟨⟨h.well.down,h.well.cut,h.well.fail⟩,h.fi.of rfl rfl,h.most,h.used,h.names⟩,vw_of rfl rfl⟩
theorem Zdl {a c:Int} (ha:0≤a∧a≤99999999) (h:nmS a=nmS c):a=c:=by
 have h1:=Y4 1 a (Ze8 ha)
 have h2:=Y4 1 c (by rw [show ofP 1 c=nmS c from rfl,←h];exact Ze8 ha)
 rw [show ofP 1 a=nmS a from rfl,h,show nmS c=ofP 1 c from rfl,h2] at h1
 injection h1 with h1
 injection h1 with _ h1
 exact h1.symm
theorem Zoe {a:Int} (ha:0≤a∧a≤99999999):nmH a≠[]:=by
 unfold nmH ofP
 rw [if_neg (by omega),if_neg (by decide),if_pos rfl]
 simp
theorem Zmz {a c:Int} (ha:0≤a∧a≤99999999) (h:nmH a=nmH c):a=c:=by
 have h1:=Y4 2 a (Zoe ha)
 have h2:=Y4 2 c (by rw [show ofP 2 c=nmH c from rfl,←h];exact Zoe ha)
 rw [show ofP 2 a=nmH a from rfl,h,show nmH c=ofP 2 c from rfl,h2] at h1
 injection h1 with h1
 injection h1 with _ h1
 exact h1.symm
theorem Zs8 {n:Int} (hn:0≤n∧n≤99999999):right (nmH n)=true:=by
 have h1:(nmH n).length=9:=by
  unfold nmH ofP
  rw [if_neg (by omega),if_neg (by decide),if_pos rfl,List.length_cons,Yc]
 unfold right
 rw [h1]
 decide
theorem S_H {a c:Int} (ha:0≤a∧a≤99999999):nmS a≠nmH c:=fun h=>by
 have h1:=Y4 1 a (Ze8 ha)
 have h2:=Y4 2 c (by rw [show ofP 2 c=nmH c from rfl,←h];exact Ze8 ha)
 rw [show ofP 1 a=nmS a from rfl,h,show nmH c=ofP 2 c from rfl,h2] at h1
 cases h1
theorem S_M {a:Int}:nmS a≠nmM:=fun h=>by
 have:isS (nmS a)=isS nmM:=by rw [h]
 unfold nmS ofP at h
 split at h
 ·cases h
 ·rw [if_pos rfl] at h;cases h
theorem S_T {a:Int}:nmS a≠nmT:=fun h=>by
 unfold nmS ofP at h
 split at h
 ·cases h
 ·rw [if_pos rfl] at h;cases h
theorem H_M {a:Int}:nmH a≠nmM:=fun h=>by
 unfold nmH ofP at h
 split at h
 ·cases h
 ·rw [if_neg (by decide),if_pos rfl] at h;cases h
theorem H_T {a:Int}:nmH a≠nmT:=fun h=>by
 unfold nmH ofP at h
 split at h
 ·cases h
 ·rw [if_neg (by decide),if_pos rfl] at h;cases h
theorem WS.save {x:Mn} {s:Nat} (h:WS m U N) (hx:Z1 x=true) (ht:vw m nmT=none) (hm:∀ b,vw m nmM=some b→b.length≤s) (hU:U+(putM x).length+s≤4194304) (hN:N+2 < 4096) :
 (saveP m x).2=0∧WS (saveP m x).1 (U+(putM x).length+s) (N+2)∧∀ y,vw (saveP m x).1 y=if y=nmM then some (putM x) else vw m y:=by
 have hleft:leftP m=(m,0):=by
  unfold leftP
  rw [Yq,ht]
  rfl
 unfold saveP
 rw [if_pos hx]
 unfold Yo
 simp only [seqP]
 rw [hleft]
 dsimp only
 rw [if_pos rfl]
 obtain ⟨a1,a2,a3⟩:=h.create (n:=nmT) (by decide) ht (by omega)
 rw [if_pos a1]
 generalize (m.create nmT).1=m1 at *
 obtain ⟨b1,b2,b3⟩:=a2.append (b:=putM x) ((a3 nmT).trans (if_pos rfl)) (by omega)
 rw [if_pos b1]
 generalize (m1.append nmT (putM x)).1=m2 at *
 obtain ⟨c1,c2,c3⟩:=b2.sync ((b3 nmT).trans (if_pos rfl))
 rw [if_pos c1]
 generalize (m2.sync nmT).1=m3 at *
 obtain ⟨d1,d2,d3⟩:=c2.rename (s:=s) ((c3 nmT).trans ((b3 nmT).trans (if_pos rfl))) (to:=nmM) (by decide) (by decide) (fun b hb=>hm b (by
  rw [c3,b3,a3] at hb
  rw [if_neg (by decide),if_neg (by decide)] at hb
  exact hb)) (by omega)
 rw [if_pos d1]
 generalize (m3.rename nmT nmM).1=m4 at *
 obtain ⟨e1,e2,e3⟩:=d2.syncDir
 rw [if_pos e1]
 refine ⟨rfl,e2.mono (by omega) (by omega),fun y=>?_⟩
 rw [e3,d3]
 by_cases h1:y=nmM
 ·rw [if_pos h1,if_pos h1]
  rfl
 ·rw [if_neg h1,if_neg h1]
  by_cases h2:y=nmT
  ·rw [if_pos h2,h2,ht]
  ·rw [if_neg h2,c3,b3,if_neg h2,a3,if_neg h2]
theorem WS.make {n:Int} (h:WS m U N) (hn:0≤n∧n≤99999999) (hv:vw m (nmS n)=none) (hU:U+13≤4194304) (hN:N < 4096) :
 (makeP m n).2=0∧WS (makeP m n).1 (U+13) (N+1)∧∀ y,vw (makeP m n).1 y=if y=nmS n then some (segB n []) else vw m y:=by
 obtain ⟨a1,a2,a3⟩:=h.create (Ztc hn) hv hN
 have hl:=Ztd n
 obtain ⟨b1,b2,b3⟩:=a2.append (b:=putB (Zw n)) ((a3 (nmS n)).trans (if_pos rfl)) (by omega)
 unfold makeP
 rw [if_pos a1,if_pos b1]
 refine ⟨rfl,b2.mono (by omega) (Nat.le_refl _),fun y=>?_⟩
 show vw ((m.create (nmS n)).1.append (nmS n) (putB (Zw n))).1 y=_
 rw [b3]
 by_cases e:y=nmS n
 ·rw [if_pos e,if_pos e]
  unfold segB
  rw [List.nil_append,List.map_nil,putL,putL,List.append_nil]
 ·rw [if_neg e,if_neg e,a3,if_neg e]
theorem WS.write {n:Int} {sb:List UInt8} (h:WS m U N) (hn:0≤n∧n≤99999999) (hv:vw m (nmH n)=none) (hs:vw m (nmS n)=some sb) (hU:U+(2*sb.length+21)≤4194304) (hN:N < 4096) :
 WS (Zas m n) (U+(2*sb.length+21)) (N+1)∧∀ y,vw (Zas m n) y=if y=nmH n then some (hintB m n) else vw m y:=by
 obtain ⟨a1,a2,a3⟩:=h.create (Zs8 hn) hv hN
 have hne:nmS n≠nmH n:=S_H hn
 have hsz:(m.create (nmH n)).1.size (nmS n)=m.size (nmS n):=by rw [Yq,Yq,a3,if_neg hne]
 have hall:Ya (m.create (nmH n)).1 n=Ya m n:=by
  unfold Ya
  rw [hsz,Zbx a2.well.down,Zbx h.well.down,a3,if_neg hne]
 have hb:hintB (m.create (nmH n)).1 n=hintB m n:=by unfold hintB;rw [hall,hsz]
 have hl:((hintB m n).length:Int)≤2*sb.length+21:=by
  have:=Zf5 m n
  rw [Yq,hs] at this
  exact this
 obtain ⟨b1,b2,b3⟩:=a2.append (b:=hintB (m.create (nmH n)).1 n) ((a3 (nmH n)).trans (if_pos rfl)) (by rw [hb];omega)
 obtain ⟨c1,c2,c3⟩:=b2.sync ((b3 (nmH n)).trans (if_pos rfl))
 have e:Zas m n=(((m.create (nmH n)).1.append (nmH n) (hintB (m.create (nmH n)).1 n)).1.sync (nmH n)).1:=by
  unfold Zas Zel
  simp only [seqP]
  rw [if_pos a1,if_pos b1,if_pos c1]
 rw [e]
 refine ⟨c2.mono (by rw [hb];omega) (Nat.le_refl _),fun y=>?_⟩
 rw [c3,b3]
 by_cases e2:y=nmH n
 ·rw [if_pos e2,if_pos e2,hb,List.nil_append]
 ·rw [if_neg e2,if_neg e2,a3,if_neg e2]
theorem Zs9 {rs:List Rc} {n:Int} (hd:m.down=false) (hv:vw m (nmS n)=some (segB n rs)) (hr:∀ r∈rs,Zp r):Ya m n=(foundL rs 13,0,0):=by
 have ha:allB (segB n rs) 0=((0,13,Zw n) :: itsL (rs.map putR) 13,0,(segB n rs).length,0):=by
  unfold segB
  rw [Znn,itsL,if_pos (Ze5 n),Yi]
 obtain ⟨h1,h2⟩:=its_found rs 13 hr
 rw [Zs2 (Zj3 hd hv) ha (Zlj n _),List.drop_succ_cons,List.drop_zero,h1,h2]
 rfl
theorem Zxr {us bs:List Rc} {r:Rc} {n:Int} (hd:m.down=false) (hv:vw m (nmS n)=some (segB n (us++r :: bs))) (hr:Zp r):getP m n ((13+(Yp us).length:Nat):Int)=(r,0) :=
 Zw3 hr (fun a k hak=>by
  rw [Zbx hd,hv]
  dsimp only
  rw [if_neg (by omega)]
  have e1:(a:Int).toNat=a:=Int.toNat_natCast _
  have e2:(k:Int).toNat=k:=Int.toNat_natCast _
  rw [e1,e2]) (Ztb n us r bs) (by rw [Yg];unfold Yp;rw [List.map_append,putL_append,List.length_append];omega)
end
def Zdk (L:Lg) (rs:Int→List Rc):Nat:=if L.last=-1 then 0 else (segB L.last (rs L.last)).length
def Zhg (n:Int) (l:List Rc):List UInt8:=putH (Zab (foundL l 13)) (segB n l).length
structure LW (k:Nat) (L:Lg) (rs:Int→List Rc):Prop where
 r:LgR L
 ws:∃ U,WS L.dk U (4*k)∧U+2*Zdk L rs≤33000*k
 segs:∀ n∈L.man.segs,vw L.dk (nmS n)=some (segB n (rs n))∧(∀ r∈rs n,Zp r)∧(segB n (rs n)).length≤13+8200*k
 only:∀ n,0≤n∧n≤99999999→¬ n∈L.man.segs→vw L.dk (nmS n)=none
 noT:vw L.dk nmT=none
 man:∀ b,vw L.dk nmM=some b→b.length≤4015
 hint:∀ n∈L.man.segs,n≠L.last→vw L.dk (nmH n)=some (Zhg n (rs n))
 nohint:∀ n,0≤n∧n≤99999999→(¬ n∈L.man.segs∨n=L.last)→vw L.dk (nmH n)=none
 next:L.man.next≤k+1
 few:L.man.segs.length≤k
theorem Zs7 {m:Dk} {s:Nm} (h:s∈m.names.map (·.1)):vw m s≠none:=fun e=>by
 obtain ⟨p,hp,rfl⟩:=List.mem_map.1 h
 have:=vw_none.1 e
 unfold Dir.find at this
 rw [Option.map_eq_none_iff,List.find?_eq_none] at this
 have:=this p hp
 simp at this
theorem Zxq {L:Lg} (h:∀ n,0≤n∧n≤99999999→¬ n∈L.man.segs→vw L.dk (nmS n)=none) (hr:LgR L):lnumP L=L.man.next:=by
 refine Int.le_antisymm (nextO_le _ _ _ (Int.le_refl _) fun x hx=>?_) (Zkb L)
 rw [Zn5] at hx
 obtain ⟨s,hs,hp⟩:=hx
 have hk:=Zba s _ _ hp
 have hof:=Zc5 s _ _ hp
 have hin:x∈L.man.segs:=Classical.byContradiction fun hn=>by
  have:=h x (by omega) hn
  rw [show nmS x=s from hof] at this
  exact Zs7 hs this
 exact ((Yl.1 hr.man).2.2.1 x hin).2
section
variable {k:Nat} {L:Lg} {rs:Int→List Rc}
theorem LW.nextNot (h:LW k L rs):¬ L.man.next∈L.man.segs:=fun e=>by have:=((Yl.1 h.r.man).2.2.1 _ e).2;omega
theorem LW.lastIn (h:LW k L rs) (hl:L.last≠-1):L.last∈L.man.segs:=h.r.last.resolve_left hl
theorem Zw2 {m:Dk} {n:Int} {l:List Rc} (hd:m.down=false) (hv:vw m (nmS n)=some (segB n l)) (hr:∀ r∈l,Zp r):hintB m n=Zhg n l:=by
 unfold hintB Zhg
 rw [Zs9 hd hv hr,Yq,hv]
theorem LW.roll (h:LW k L rs) (hk:k≤122):∃ m',rollP L=(⟨m',L.limit,⟨L.man.segs++[L.man.next],L.man.next+1⟩,L.man.next⟩,0) ∧
 LW (k+1) ⟨m',L.limit,⟨L.man.segs++[L.man.next],L.man.next+1⟩,L.man.next⟩ (fun n=>if n=L.man.next then [] else rs n):=by
 obtain ⟨U,hws,hU⟩:=h.ws
 have hnx:=h.r.next
 have hnot:=h.nextNot
 have hnext:=h.next
 have hfew:=h.few
 obtain ⟨x,hx⟩:∃ x,L.man.next=x:=⟨_,rfl⟩
 rw [hx] at hnx hnot hnext ⊢
 have hlr:=h.r.lasts
 -- Sync
 obtain ⟨m1,hs,hw1,hv1⟩:∃ m1,Zz L=(L.on m1,0)∧WS m1 U (4*k)∧SameV L.dk m1:=by
  unfold Zz
  split
  ·exact ⟨L.dk,rfl,hws,SameV.refl _⟩
  ·rename_i hl
   obtain ⟨a1,a2,a3⟩:=hws.sync (h.segs _ (h.lastIn hl)).1
   exact ⟨_,by rw [a1],a2,a3⟩
 have honly1:∀ n,0≤n∧n≤99999999→¬ n∈L.man.segs→vw m1 (nmS n)=none:=fun n h1 h2=>by rw [hv1];exact h.only n h1 h2
 have hnum:lnumP (L.on m1)=x:=by rw [←hx];exact Zxq (L:=L.on m1) honly1 (h.r.on m1)
 -- Make
 obtain ⟨b1,b2,b3⟩:=hw1.make (n:=x) hnx (honly1 x hnx hnot) (by omega) (by omega)
 obtain ⟨m2,hm2⟩:∃ m2,(makeP m1 x).1=m2:=⟨_,rfl⟩
 rw [hm2] at b2 b3
 have hright:Z1 ⟨L.man.segs++[x],x+1⟩=true:=Zhy h.r.man (by omega) (by omega)
 have hpl:=Zgl hright
 -- Save
 obtain ⟨c1,c2,c3⟩:=b2.save (s:=4015) hright (by rw [b3,if_neg S_T.symm,hv1];exact h.noT) (fun b hb=>by rw [b3,if_neg S_M.symm,hv1] at hb;exact h.man b hb) (by rw [hpl];simp only [List.length_append,List.length_singleton];omega) (by omega)
 obtain ⟨m3,hm3⟩:∃ m3,(saveP m2 ⟨L.man.segs++[x],x+1⟩).1=m3:=⟨_,rfl⟩
 rw [hm3] at c2 c3
 have hsv:Z0 ((((L.on m1).next (x+1)).on m2)) (L.man.segs++[x])=(⟨m3,L.limit,⟨L.man.segs++[x],x+1⟩,L.last⟩,0):=by
  unfold Z0
  show (if (saveP m2 ⟨L.man.segs++[x],x+1⟩).2=0 then _ else _)=_
  rw [if_pos c1]
  show (_,(0:Int))=_
  rw [←hm3]
  rfl
 have hroll:rollP L=(rollC ⟨m3,L.limit,⟨L.man.segs++[x],x+1⟩,L.last⟩ x,0):=by
  unfold rollP
  rw [hs]
  dsimp only
  rw [if_pos rfl,hnum,if_neg (by omega)]
  unfold rollA
  show (if (makeP m1 x).2=0 then rollB (((L.on m1).next (x+1)).on (makeP m1 x).1) x else _)=_
  rw [if_pos b1,hm2]
  unfold rollB
  show (if (Z0 (((L.on m1).next (x+1)).on m2) (L.man.segs++[x])).2=0 then (rollC (Z0 (((L.on m1).next (x+1)).on m2) (L.man.segs++[x])).1 x,(0:Int)) else _)=_
  rw [hsv,if_pos rfl]
 -- what each name has so far
 have hv3:∀ y,vw m3 y=if y=nmM then some (putM ⟨L.man.segs++[x],x+1⟩) else if y=nmS x then some (segB x []) else vw L.dk y:=fun y=>by
  rw [c3]
  by_cases e:y=nmM
  ·rw [if_pos e,if_pos e]
  ·rw [if_neg e,if_neg e,b3,hv1]
 have hS3:∀ n,0≤n∧n≤99999999→n≠x→vw m3 (nmS n)=vw L.dk (nmS n):=fun n hn hne=>by
  rw [hv3,if_neg S_M,if_neg fun e=>hne (Zdl hn e)]
 have hH3:∀ n,vw m3 (nmH n)=vw L.dk (nmH n):=fun n=>by
  rw [hv3,if_neg H_M,if_neg fun e=>S_H hnx e.symm]
 have hT3:vw m3 nmT=none:=by rw [hv3,if_neg (by decide),if_neg S_T.symm];exact h.noT
 have hseg:∀ n∈L.man.segs,(0≤n∧n≤99999999)∧n≠x:=fun n hn=>⟨h.r.seg hn,fun e=>hnot (e ▸ hn)⟩
 have hlr3:=(Yl.1 hright)
 -- the last step
 obtain ⟨m4,hc,hw4,hv4⟩:∃ m4,rollC ⟨m3,L.limit,⟨L.man.segs++[x],x+1⟩,L.last⟩ x=⟨m4,L.limit,⟨L.man.segs++[x],x+1⟩,x⟩∧(∃ U',WS m4 U' (4*(k+1))∧U'+2*13≤33000*(k+1)) ∧
  ∀ y,vw m4 y=if L.last≠-1∧y=nmH L.last then some (Zhg L.last (rs L.last)) else vw m3 y:=by
  unfold rollC
  dsimp only
  by_cases hl:L.last=-1
  ·rw [if_pos hl]
   refine ⟨m3,rfl,⟨_,c2.mono (Nat.le_refl _) (by omega),?_⟩,fun y=>by rw [if_neg fun e=>e.1 hl]⟩
   rw [hpl]
   simp only [List.length_append,List.length_singleton]
   omega
  ·rw [if_neg hl]
   have hin:=h.lastIn hl
   obtain ⟨q1,q2,q3⟩:=h.segs _ hin
   have hlr:=(hseg _ hin)
   have hsl:vw m3 (nmS L.last)=some (segB L.last (rs L.last)):=(hS3 _ hlr.1 hlr.2).trans q1
   have hlen:Zdk L rs=(segB L.last (rs L.last)).length:=by unfold Zdk;rw [if_neg hl]
   obtain ⟨d1,d2⟩:=c2.write hlr.1 ((hH3 _).trans (h.nohint _ hlr.1 (.inr rfl))) hsl (by rw [hpl];simp only [List.length_append,List.length_singleton];omega) (by omega)
   rw [Zw2 c2.well.down hsl q2] at d2
   refine ⟨Zas m3 L.last,rfl,⟨_,d1.mono (Nat.le_refl _) (by omega),?_⟩,fun y=>?_⟩
   ·rw [hpl]
    simp only [List.length_append,List.length_singleton]
    omega
   ·rw [d2]
    by_cases e:y=nmH L.last
    ·rw [if_pos e,if_pos ⟨hl,e⟩]
    ·rw [if_neg e,if_neg fun e2=>e e2.2]
 refine ⟨m4,by rw [hroll,hc],?_⟩
 have hS4:∀ n,0≤n∧n≤99999999→vw m4 (nmS n)=vw m3 (nmS n):=fun n hn=>by rw [hv4,if_neg fun e=>S_H hn e.2]
 have hx3:vw m3 (nmS x)=some (segB x []):=by rw [hv3,if_neg S_M,if_pos rfl]
 refine ⟨⟨hright,.inr (List.mem_append_right _ (List.mem_singleton.2 rfl)),h.r.limit⟩,?_,?_,?_,?_,?_,?_,?_,?_,?_⟩
 ·obtain ⟨U',h1,h2⟩:=hw4
  refine ⟨U',h1,?_⟩
  unfold Zdk
  dsimp only
  rw [if_neg (by omega),if_pos rfl,Yg]
  simp only [Yp,List.map_nil,putL,List.length_nil]
  omega
 ·intro n hn
  dsimp only at hn ⊢
  rcases List.mem_append.1 hn with hn | hn
  ·obtain ⟨e1,e2⟩:=hseg n hn
   obtain ⟨q1,q2,q3⟩:=h.segs n hn
   rw [if_neg e2,hS4 n e1,hS3 n e1 e2]
   exact ⟨q1,q2,by omega⟩
  ·rw [List.mem_singleton.1 hn,if_pos rfl,hS4 x hnx]
   exact ⟨hx3,fun r hr=>(by cases hr),by rw [Yg];simp only [Yp,List.map_nil,putL,List.length_nil];omega⟩
 ·intro n hn hnn
  dsimp only at hnn ⊢
  have hne:n≠x:=fun e=>hnn (List.mem_append_right _ (List.mem_singleton.2 e))
  rw [hS4 n hn,hS3 n hn hne]
  exact h.only n hn fun e=>hnn (List.mem_append_left _ e)
 ·show vw m4 nmT=none
  rw [hv4,if_neg fun e=>H_T e.2.symm]
  exact hT3
 ·intro b hb
  dsimp only at hb
  rw [hv4,if_neg fun e=>H_M e.2.symm,hv3,if_pos rfl] at hb
  injection hb with hb
  rw [←hb]
  exact Zcx _
 ·intro n hn hne
  dsimp only at hn hne ⊢
  rcases List.mem_append.1 hn with hn | hn
  ·obtain ⟨e1,e2⟩:=hseg n hn
   rw [if_neg e2,hv4]
   by_cases hl:n=L.last
   ·rw [if_pos ⟨by omega,by rw [hl]⟩,hl]
   ·rw [if_neg fun e=>hl (Zmz e1 e.2),hH3]
    exact h.hint n hn hl
  ·exact absurd (List.mem_singleton.1 hn) hne
 ·intro n hn hor
  dsimp only at hor ⊢
  have hnl:¬ (L.last≠-1∧nmH n=nmH L.last):=fun e=>by
   have e2:=Zmz hn e.2
   have hin:=h.lastIn e.1
   rcases hor with ho | ho
   ·exact ho (List.mem_append_left _ (e2 ▸ hin))
   ·exact (hseg _ hin).2 (e2.symm.trans ho)
  rw [hv4,if_neg hnl,hH3]
  refine h.nohint n hn ?_
  rcases hor with ho | ho
  ·exact .inl fun e=>ho (List.mem_append_left _ e)
  ·exact .inl fun e=>hnot (ho ▸ e)
 ·show x+1≤((k+1:Nat):Int)+1
  omega
 ·show (L.man.segs++[x]).length≤_
  rw [List.length_append,List.length_singleton]
  omega
theorem LW.add {r:Rc} (h:LW k L rs) (hk:k≤122) (hl:L.last≠-1) (hr:Zp r) :
 ∃ m',addLP L r=(L.on m',(L.last,((segB L.last (rs L.last)).length:Int),((frS r).length:Int),0))∧LW (k+1) (L.on m') (fun n=>if n=L.last then rs n++[r] else rs n):=by
 obtain ⟨U,hws,hU⟩:=h.ws
 have hin:=h.lastIn hl
 obtain ⟨q1,q2,q3⟩:=h.segs _ hin
 have hlr:=h.r.seg hin
 have hfr:=Yv r
 have hlen:Zdk L rs=(segB L.last (rs L.last)).length:=by unfold Zdk;rw [if_neg hl]
 obtain ⟨a1,a2,a3⟩:=hws.append (b:=frS r) q1 (by omega)
 obtain ⟨m',hm'⟩:∃ m',(L.dk.append (nmS L.last) (frS r)).1=m':=⟨_,rfl⟩
 rw [hm'] at a2 a3
 have hadd:addP L.dk L.last r=(m',(((segB L.last (rs L.last)).length:Int),((frS r).length:Int),0)):=by
  unfold addP
  rw [if_pos hr,if_pos a1,hm',Yq,q1]
 refine ⟨m',?_,?_⟩
 ·unfold addLP
  rw [hadd]
  dsimp only
  rw [if_pos rfl]
 have hnew:segB L.last (rs L.last++[r])=segB L.last (rs L.last)++frS r:=Zhe _ _ _
 have hH:∀ n,vw m' (nmH n)=vw L.dk (nmH n):=fun n=>by rw [a3,if_neg fun e=>S_H hlr e.symm]
 refine ⟨h.r.on m',⟨_,a2.mono (Nat.le_refl _) (by omega),?_⟩,?_,?_,?_,?_,?_,?_,?_,?_⟩
 ·unfold Zdk
  show _+2*(if L.last=-1 then 0 else (segB L.last (if L.last=L.last then rs L.last++[r] else rs L.last)).length)≤_
  rw [if_neg hl,if_pos rfl,hnew,List.length_append]
  omega
 ·intro n hn
  have hn':n∈L.man.segs:=hn
  have hnr:=h.r.seg hn'
  show vw m' (nmS n)=_∧_
  rw [a3]
  by_cases e:n=L.last
  ·rw [if_pos (by rw [e]),if_pos e,e,hnew]
   refine ⟨rfl,fun x hx=>?_,by rw [List.length_append];omega⟩
   rcases List.mem_append.1 hx with hx | hx
   ·exact q2 x hx
   ·rw [List.mem_singleton.1 hx];exact hr
  ·rw [if_neg fun e2=>e (Zdl hnr e2),if_neg e]
   obtain ⟨p1,p2,p3⟩:=h.segs n hn'
   exact ⟨p1,p2,by omega⟩
 ·intro n hn hnn
  show vw m' (nmS n)=none
  rw [a3,if_neg fun e=>hnn (by rw [Zdl hn e];exact hin)]
  exact h.only n hn hnn
 ·show vw m' nmT=none
  rw [a3,if_neg S_T.symm]
  exact h.noT
 ·intro b hb
  have hb':vw m' nmM=some b:=hb
  rw [a3,if_neg S_M.symm] at hb'
  exact h.man b hb'
 ·intro n hn hne
  have hne':n≠L.last:=hne
  show vw m' (nmH n)=some (Zhg n (if n=L.last then rs n++[r] else rs n))
  rw [hH,if_neg hne']
  exact h.hint n hn hne'
 ·intro n hn hor
  show vw m' (nmH n)=none
  rw [hH]
  exact h.nohint n hn hor
 ·show L.man.next≤((k+1:Nat):Int)+1
  have:=h.next
  omega
 ·show L.man.segs.length≤k+1
  have:=h.few
  omega
end
def LG0 (limit:Int):Lg:=⟨Dk.new 4194304,limit,⟨[],1⟩,-1⟩
theorem Zfy {limit:Int} (h:64≤limit∧limit≤1073741824):openP (Dk.new 4194304) limit=(some (LG0 limit),0):=by
 unfold openP
 rw [if_neg (by omega)]
 rfl
theorem LW.new {limit:Int} (h:64≤limit∧limit≤1073741824):LW 0 (LG0 limit) fun _=>[] :=
 ⟨⟨show Z1 ⟨[],1⟩=true by decide,.inl rfl,h⟩,⟨0,⟨⟨by kernel_rfl,Ze6 (show (LG0 limit).dk.cut=-1 by kernel_rfl),Ze6 (show (LG0 limit).dk.fail=-1 by kernel_rfl)⟩,FI.new _,rfl,⟨show -((0:Nat):Int)≤0 by omega,show (0:Int)≤((0:Nat):Int) by omega⟩,Nat.le_refl 0⟩,Nat.le_refl 0⟩,fun n hn=>(by cases hn),fun n _ _=>rfl,rfl,fun b hb=>(by cases hb),fun n hn=>(by cases hn),fun n _ _=>rfl,by show (1:Int)≤_;omega,Nat.le_refl 0⟩
theorem LW.mono {k k':Nat} {L:Lg} {rs:Int→List Rc} (h:LW k L rs) (hk:k≤k'):LW k' L rs:=by
 obtain ⟨U,hU,hU2⟩:=h.ws
 exact ⟨h.r,⟨U,hU.mono (Nat.le_refl _) (by omega),by omega⟩,fun n hn=>⟨(h.segs n hn).1,(h.segs n hn).2.1,by have:=(h.segs n hn).2.2;omega⟩,h.only,h.noT,h.man,h.hint,h.nohint,by have:=h.next;omega,by have:=h.few;omega⟩
section
variable {k:Nat} {L:Lg} {rs:Int→List Rc}
theorem LW.fits (h:LW k L rs) (hl:L.last≠-1) (n:Int):fitsP L n=(decide (((segB L.last (rs L.last)).length:Int)≤13) || decide (((segB L.last (rs L.last)).length:Int)+n≤L.limit)):=by
 unfold fitsP
 rw [decide_eq_false hl,Yq,(h.segs _ (h.lastIn hl)).1]
 rfl
theorem LW.ladd (h:LW k L rs) (hk:k≤121) (r:Rc):∃ rs',LW (k+2) (laddP L r).1 rs'∧(laddP L r).1.limit=L.limit:=by
 unfold laddP
 by_cases hr:Zp r
 rotate_left 1
 ·rw [if_neg hr]
  exact ⟨rs,h.mono (by omega),rfl⟩
 rw [if_pos hr]
 by_cases hf:fitsP L (frS r).length=true
 ·rw [if_pos hf]
  have hl:L.last≠-1:=fun e=>by unfold fitsP at hf;rw [e] at hf;simp at hf
  obtain ⟨m',h1,h2⟩:=h.add (r:=r) (by omega) hl hr
  rw [h1]
  exact ⟨_,h2.mono (by omega),rfl⟩
 ·rw [if_neg hf]
  obtain ⟨m',h1,h2⟩:=h.roll (by omega)
  rw [h1]
  dsimp only
  rw [if_pos rfl]
  obtain ⟨m2,h3,h4⟩:=h2.add (r:=r) (by omega) (by have:=h.r.next;show L.man.next≠-1;omega) hr
  rw [h3]
  exact ⟨_,h4,rfl⟩
end
def GI (L:Lg) (j:Nat) (rs:List Rc):Prop:=L.limit=1048576∧(rs=[]∧L=LG0 1048576∨rs≠[]∧L.man.segs=[1]∧L.last=1∧∃ f,f 1=rs∧LW (j+1) L f)
def posL (rs:List Rc):List Int:=(foundL rs 13).map fun f=>(f.1:Int)
section
variable {L:Lg} {j:Nat} {rs:List Rc}
theorem GI.new:GI (LG0 1048576) 0 []:=⟨rfl,.inl ⟨rfl,rfl⟩⟩
theorem Zs6 (rs:List Rc) (r:Rc):posL (rs++[r])=posL rs++[((segB 1 rs).length:Int)]:=by
 unfold posL
 rw [foundL_snoc,List.map_append,Yg]
 rfl
theorem GI.ill (h:GI L j rs) {r:Rc} (hr:¬ Zp r):laddP L r=(L,(0,0,0,1))∧GI L (j+1) rs:=by
 refine ⟨by unfold laddP;rw [if_neg hr],h.1,?_⟩
 rcases h.2 with h2 | ⟨h0,h1,h2,f,h3,h4⟩
 ·exact .inl h2
 ·exact .inr ⟨h0,h1,h2,f,h3,h4.mono (by omega)⟩
theorem GI.right (h:GI L j rs) (hj:j≤100) {r:Rc} (hr:Zp r):(laddP L r).2=(1,((segB 1 rs).length:Int),((frS r).length:Int),0)∧GI (laddP L r).1 (j+1) (rs++[r]):=by
 have hf:=Yv r
 rcases h.2 with ⟨h2,h3⟩ | ⟨h0,h1,h2,f,h3,h4⟩
 ·subst h2
  subst h3
  have hz:=LW.new (limit:=1048576) (by omega)
  obtain ⟨m1,a1,a2⟩:=hz.roll (by omega)
  have a3:fitsP (LG0 1048576) (frS r).length=false:=rfl
  obtain ⟨m2,b1,b2⟩:=a2.add (r:=r) (by omega) (by show (1:Int)≠-1;omega) hr
  unfold laddP
  rw [if_pos hr,a3,if_neg (by decide),a1]
  dsimp only
  rw [if_pos rfl,b1]
  refine ⟨rfl,rfl,.inr ⟨by simp,rfl,rfl,_,rfl,b2.mono (by omega)⟩⟩
 ·have hl:L.last≠-1:=by omega
  obtain ⟨m2,b1,b2⟩:=h4.add (r:=r) (by omega) hl hr
  have hs:=(h4.segs 1 (by rw [h1];exact List.mem_singleton.2 rfl)).2.2
  have a3:fitsP L (frS r).length=true:=by
   rw [h4.fits hl,h.1,h2]
   simp only [Bool.or_eq_true,decide_eq_true_eq]
   exact .inr (by omega)
  unfold laddP
  rw [if_pos hr,if_pos a3,b1]
  refine ⟨by dsimp only;rw [h2,h3],h.1,.inr ⟨by simp,h1,h2,_,?_,b2⟩⟩
  rw [if_pos h2.symm,h3]
theorem Zvl {rs:List Rc} (h:posL rs=[]):rs=[]:=by
 cases rs with
 | nil=>rfl
 | cons r rs=>cases h
theorem GI.none (h:GI L j rs) {n x:Int} (hn:n≠1∨posL rs=[]):(lgetP L n x).2=3:=by
 have hh:L.has n=false:=by
  unfold Lg.has
  refine decide_eq_false fun hm=>?_
  rcases h.2 with ⟨_,h3⟩ | ⟨h0,h1,h2,f,h3,h4⟩
  ·rw [h3] at hm;cases hm
  ·rw [h1] at hm
   rcases hn with hn | hn
   ·exact hn (List.mem_singleton.1 hm)
   ·exact h0 (Zvl hn)
 unfold lgetP
 rw [hh]
 rfl
theorem GI.get (h:GI L j rs) (hp:posL rs≠[]) (x:Int):(x∈posL rs→(lgetP L 1 x).2=0)∧(x < 0∨(1048576:Int)≤x→j≤100→(lgetP L 1 x).2=1):=by
 rcases h.2 with ⟨h2,_⟩ | ⟨h0,h1,h2,f,h3,h4⟩
 ·rw [h2] at hp;exact absurd rfl hp
 have hin:(1:Int)∈L.man.segs:=by rw [h1];exact List.mem_singleton.2 rfl
 obtain ⟨q1,q2,q3⟩:=h4.segs 1 hin
 obtain ⟨U,hws,_⟩:=h4.ws
 have e:lgetP L 1 x=getP L.dk 1 x:=by unfold lgetP;rw [if_pos (show L.has 1=true from decide_eq_true hin)]
 rw [e]
 rw [h3] at q1 q2 q3
 refine ⟨fun hx=>?_,fun hx hj=>?_⟩
 ·obtain ⟨t,ht,rfl⟩:=List.mem_map.1 hx
  obtain ⟨i,hi⟩:=List.mem_iff_getElem?.1 ht
  obtain ⟨us,r,bs,hrs,_,hxe⟩:=foundL_at rs i 13 t hi
  subst hrs
  rw [hxe]
  have:=Zxr (us:=us) (bs:=bs) (r:=r) (n:=1) hws.well.down q1 (q2 r (List.mem_append_right _ (List.mem_cons_self ..)))
  rw [this]
 ·have hrd:L.dk.read (nmS 1) x 4=(Option.none,1):=by
   rw [Zbx hws.well.down,q1]
   dsimp only
   rw [if_pos (by omega)]
  have hf:J2 L.dk 1 x=(Option.none,1):=by unfold J2;simp [hrd]
  unfold getP
  simp [hf]
end
structure GJ (L:Lg) (j:Nat) (rs:List Rc):Prop where
 gi:GI L j rs
 ok:∃ S,LOk (6*j) S L.dk∧13≤S∧S≤13+8200*j∧(rs=[]→S=13)
section
variable {L:Lg} {j:Nat} {rs:List Rc}
theorem GI.r (h:GI L j rs):LgR L:=by
 rcases h.2 with ⟨_,h3⟩ | ⟨h0,h1,h2,f,h3,h4⟩
 ·rw [h3];exact (LW.new (by omega)).r
 ·exact h4.r
theorem GJ.new:GJ (LG0 1048576) 0 []:=⟨GI.new,13,LOk.new _,by omega,by omega,fun _=>rfl⟩
theorem GJ.ill (h:GJ L j rs) {r:Rc} (hr:¬ Zp r):GJ (laddP L r).1 (j+1) rs:=by
 obtain ⟨h1,S,h2,h3,h4,h5⟩:=h
 obtain ⟨k1,k2⟩:=h1.ill hr
 rw [k1]
 exact ⟨k2,S,h2.mono (by omega) (Nat.le_refl _),h3,by omega,h5⟩
theorem GJ.right (h:GJ L j rs) (hj:j≤100) {r:Rc} (hr:Zp r):GJ (laddP L r).1 (j+1) (rs++[r]):=by
 obtain ⟨h1,S,h2,h3,h4,h5⟩:=h
 have hf:=Yv r
 exact ⟨(h1.right hj hr).2,_,(h2.ladd h1.r h3 r).mono (by omega) (Nat.le_refl _),by omega,by omega,fun e=>by simp at e⟩
theorem GJ.roll (h:GJ L j rs) (hj:j≤100) {S:Nat} (hS:rs=[]→S=13) (r:Rc) (hf:fitsP L (frS r).length=false):S≤100000:=by
 have hfs:=Yv r
 rcases h.gi.2 with ⟨h2,_⟩ | ⟨h0,h1,h2,f,h3,h4⟩
 ·have:=hS h2;omega
 ·have hl:L.last≠-1:=by omega
  have hs:=(h4.segs 1 (by rw [h1];exact List.mem_singleton.2 rfl)).2.2
  rw [h4.fits hl,h.gi.1,h2] at hf
  simp only [Bool.or_eq_false_iff,decide_eq_false_iff_not] at hf
  omega
end
end Go.Proofs.YtkelafkbmnjpeaaGreat
