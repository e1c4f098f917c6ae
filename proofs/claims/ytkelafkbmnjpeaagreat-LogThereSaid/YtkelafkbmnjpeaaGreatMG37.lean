/-
  Texts that the statements lean on, one behind the other.
-/
import Derived.Test.YtkelafkbmnjpeaaGreatMG23
import Derived.Test.YtkelafkbmnjpeaaGreatMG32
import Derived.Test.YtkelafkbmnjpeaaGreatMG10
import Derived.Test.YtkelafkbmnjpeaaGreatMG09
import Derived.Test.YtkelafkbmnjpeaaGreatMG33
import Derived.Test.YtkelafkbmnjpeaaGreatMG35
import Derived.Test.YtkelafkbmnjpeaaGreatMG06
import Derived.Test.YtkelafkbmnjpeaaGreatMG34
set_option linter.unusedSimpArgs false
set_option linter.unusedVariables false
namespace Go.Proofs.YtkelafkbmnjpeaaGreat
open Go.RowKit
def vw (m:Dk) (n:Nm):Option (List UInt8):=(Dir.find n m.names).map fun f=>(m.files f).bytes
structure FI (m:Dk):Prop where
 lt:∀ n f,Dir.find n m.names=some f→f < m.made
 inj:∀ n n' f,Dir.find n m.names=some f→Dir.find n' m.names=some f→n=n'
structure Live (m:Dk):Prop where
 down:m.down=false
 cut:m.cut < 0
def SameV (m m':Dk):Prop:=∀ x,vw m' x=vw m x
theorem SameV.refl (m:Dk):SameV m m:=fun _=>rfl
section
variable {m m':Dk} {n to:Nm} {b:List UInt8}
theorem Zrn {f:Nat} (h:Dir.find n m.names=some f):vw m n=some (m.files f).bytes:=by unfold vw;rw [h];rfl
theorem vw_none:vw m n=none↔Dir.find n m.names=none:=by
 unfold vw
 cases Dir.find n m.names with
 | none=>exact ⟨fun _=>rfl,fun _=>rfl⟩
 | some f=>exact ⟨fun h=>(by cases h),fun h=>(by cases h)⟩
theorem vw_of (h1:m'.names=m.names) (h2:m'.files=m.files):SameV m m':=fun x=>by unfold vw;rw [h1,h2]
theorem FI.of (h:FI m) (h1:m'.names=m.names) (h2:m'.made=m.made):FI m':=⟨fun n f hf=>by rw [h2];rw [h1] at hf;exact h.lt n f hf,fun n n' f hf hf'=>by rw [h1] at hf hf';exact h.inj n n' f hf hf'⟩
theorem Zik (m:Dk) (n:Nm):m.size n=match vw m n with
 | some b=>((b.length:Int),true)
 | none=>(0,false):=by
 unfold Dk.size vw
 cases Dir.find n m.names <;> rfl
theorem Zu6 (hd:m.down=false) (x k:Int):m.read n x k=match vw m n with
 | some b=>if x < 0∨k < 0∨(b.length:Int) < x∨(b.length:Int) - x < k then (none,1) else (some ((b.drop x.toNat).take k.toNat),0)
 | none=>(none,3):=by
 unfold Dk.read vw
 rw [if_neg (by rw [hd];decide)]
 cases Dir.find n m.names <;> rfl
theorem FI.new (y:Int):FI (Dk.new y):=⟨fun n f h=>(by cases h),fun n n' f h=>(by cases h)⟩
theorem Zod {x:Int} (h:x < 0):sooner x=x:=by unfold sooner;rw [if_neg (by omega)]
theorem Jw (hl:Live m) (does:Dk→Dk) (hd:∀ x:Dk,(does x).down=x.down∧(does x).cut=x.cut) :
 Live (m.thing does).1∧(((m.thing does).2=0∧(m.thing does).1=(does m.sooner).bump)∨((m.thing does).2≠0∧¬ Well m∧Like m (m.thing does).1)):=by
 have hc:=hl.cut
 have hs:m.sooner.cut=m.cut:=Zod hc
 by_cases hf:m.fail=0
 ·rw [Zse hl.down (by omega) hf]
  exact ⟨⟨hl.down,by show m.sooner.cut < 0;omega⟩,.inr ⟨show (81:Int)≠0 by omega,fun h=>by have:=h.fail;omega,⟨rfl,rfl,rfl,rfl,rfl,rfl,rfl⟩⟩⟩
 ·rw [Zsd hl.down (by omega) hf]
  refine ⟨⟨?_,?_⟩,.inl ⟨rfl,rfl⟩⟩
  ·show (does m.sooner).down=false;rw [(hd _).1];exact hl.down
  ·show (does m.sooner).cut < 0;rw [(hd _).2,hs];exact hc
/-! What is done. -/
theorem Zil (hi:FI m) (hn:vw m n=none):FI (m.doCreate n)∧∀ x,vw (m.doCreate n) x=if x=n then some [] else vw m x:=by
 have hp:(m.doCreate n).names=Dir.put n m.made m.names:=rfl
 have hfs:(m.doCreate n).files=fun j=>if j=m.made then (⟨[],0⟩:Fl) else m.files j:=rfl
 have key:∀ x,Dir.find x (m.doCreate n).names=if x=n then some m.made else Dir.find x m.names:=by
  intro x
  rw [hp]
  by_cases e:x=n
  ·rw [if_pos e,e];exact Za1 _ _ _
  ·rw [if_neg e];exact Zci e _
 refine ⟨⟨fun x f hf=>?_,fun x y f hf hf'=>?_⟩,fun x=>?_⟩
 ·show f < m.made+1
  rw [key] at hf
  split at hf
  ·injection hf with hf;omega
  ·have:=hi.lt x f hf;omega
 ·rw [key] at hf hf'
  split at hf
  ·injection hf with hf
   split at hf'
   ·rename_i e1 e2;rw [e1,e2]
   ·have:=hi.lt y f hf';omega
  ·split at hf'
   ·injection hf' with hf'
    have:=hi.lt x f hf;omega
   ·exact hi.inj x y f hf hf'
 ·unfold vw
  rw [key]
  by_cases e:x=n
  ·rw [if_pos e,if_pos e,hfs]
   show some (if m.made=m.made then (⟨[],0⟩:Fl) else _).bytes=_
   rw [if_pos rfl]
  ·rw [if_neg e,if_neg e]
   cases hf:Dir.find x m.names with
   | none=>rfl
   | some f =>
     rw [hfs]
     show some (if f=m.made then (⟨[],0⟩:Fl) else m.files f).bytes=_
     rw [if_neg (by have:=hi.lt x f hf;omega)]
     rfl
theorem Zim (hi:FI m) {f:Nat} (hf:Dir.find n m.names=some f):FI (m.doAppend f b)∧∀ x,vw (m.doAppend f b) x=if x=n then some ((m.files f).bytes++b) else vw m x:=by
 refine ⟨hi.of rfl rfl,fun x=>?_⟩
 have hfs:(m.doAppend f b).files=fun j=>if j=f then (⟨(m.files f).bytes++b,(m.files f).kept⟩:Fl) else m.files j:=rfl
 unfold vw
 rw [show (m.doAppend f b).names=m.names from rfl]
 by_cases e:x=n
 ·rw [if_pos e,e,hf,hfs]
  show some (if f=f then (⟨(m.files f).bytes++b,(m.files f).kept⟩:Fl) else _).bytes=_
  rw [if_pos rfl]
 ·rw [if_neg e]
  cases hx:Dir.find x m.names with
  | none=>rfl
  | some g =>
    rw [hfs]
    show some (if g=f then (⟨(m.files f).bytes++b,(m.files f).kept⟩:Fl) else m.files g).bytes=_
    rw [if_neg fun e2:g=f=>e (hi.inj x n f (by rw [←e2];exact hx) hf)]
    rfl
theorem Zlo (hi:FI m) (f:Nat):FI (m.doSync f)∧SameV m (m.doSync f):=by
 refine ⟨hi.of rfl rfl,fun x=>?_⟩
 unfold vw
 rw [show (m.doSync f).names=m.names from rfl]
 cases hx:Dir.find x m.names with
 | none=>rfl
 | some g =>
   show some (if g=f then (⟨(m.files f).bytes,(m.files f).bytes.length⟩:Fl) else m.files g).bytes=_
   by_cases e:g=f
   ·rw [if_pos e,e];rfl
   ·rw [if_neg e];rfl
theorem Zin (hi:FI m) (f:Nat):FI (m.doRemove f n)∧∀ x,vw (m.doRemove f n) x=if x=n then none else vw m x:=by
 have key:∀ x,Dir.find x (m.doRemove f n).names=if x=n then none else Dir.find x m.names:=by
  intro x
  show Dir.find x (Dir.del n m.names)=_
  by_cases e:x=n
  ·rw [if_pos e,e];exact Zc0 _ _
  ·rw [if_neg e];exact Jd e _
 refine ⟨⟨fun x g hg=>?_,fun x y g hg hg'=>?_⟩,fun x=>?_⟩
 ·rw [key] at hg
  split at hg
  ·cases hg
  ·exact hi.lt x g hg
 ·rw [key] at hg hg'
  split at hg
  ·cases hg
  ·split at hg'
   ·cases hg'
   ·exact hi.inj x y g hg hg'
 ·unfold vw
  rw [key]
  by_cases e:x=n
  ·rw [if_pos e,if_pos e];rfl
  ·rw [if_neg e,if_neg e];rfl
theorem Zio (hi:FI m) {f:Nat} (hf:Dir.find n m.names=some f) (hne:to≠n):FI (m.doRename n to)∧∀ x,vw (m.doRename n to) x=if x=to then some (m.files f).bytes else if x=n then none else vw m x:=by
 have key:∀ x,Dir.find x (m.doRename n to).names=if x=to then some f else if x=n then none else Dir.find x m.names:=by
  intro x
  show Dir.find x (match Dir.find n m.names with | some f=>Dir.put to f (Dir.del n m.names) | none=>m.names)=_
  rw [hf]
  dsimp only
  by_cases e:x=to
  ·rw [if_pos e,e];exact Za1 _ _ _
  ·rw [if_neg e,Zci e]
   by_cases e2:x=n
   ·rw [if_pos e2,e2];exact Zc0 _ _
   ·rw [if_neg e2];exact Jd e2 _
 refine ⟨⟨fun x g hg=>?_,fun x y g hg hg'=>?_⟩,fun x=>?_⟩
 ·rw [key] at hg
  show g < m.made
  split at hg
  ·injection hg with hg;rw [←hg];exact hi.lt n f hf
  ·split at hg
   ·cases hg
   ·exact hi.lt x g hg
 ·rw [key] at hg hg'
  by_cases e1:x=to
  ·rw [if_pos e1] at hg
   injection hg with hg
   subst hg
   by_cases e2:y=to
   ·rw [e1,e2]
   ·rw [if_neg e2] at hg'
    by_cases e3:y=n
    ·rw [if_pos e3] at hg';cases hg'
    ·rw [if_neg e3] at hg';exact absurd (hi.inj y n f hg' hf) e3
  ·rw [if_neg e1] at hg
   by_cases e3:x=n
   ·rw [if_pos e3] at hg;cases hg
   ·rw [if_neg e3] at hg
    by_cases e2:y=to
    ·rw [if_pos e2] at hg'
     injection hg' with hg'
     subst hg'
     exact absurd (hi.inj x n f hg hf) e3
    ·rw [if_neg e2] at hg'
     by_cases e4:y=n
     ·rw [if_pos e4] at hg';cases hg'
     ·rw [if_neg e4] at hg'
      exact hi.inj x y g hg hg'
 ·unfold vw
  rw [key]
  by_cases e:x=to
  ·rw [if_pos e,if_pos e];rfl
  ·rw [if_neg e,if_neg e]
   by_cases e2:x=n
   ·rw [if_pos e2,if_pos e2];rfl
   ·rw [if_neg e2,if_neg e2];rfl
theorem FI.soon (h:FI m):FI m.sooner:=h.of rfl rfl
/-! The calls. -/
theorem FI.like (h:FI m) (hl:Like m m'):FI m'∧SameV m m':=⟨h.of hl.names hl.made,vw_of hl.names hl.files⟩
theorem Zf3 (hi:FI m) (hl:Live m) (n:Nm):Live (m.create n).1∧FI (m.create n).1 ∧
 (((m.create n).2=0∧vw m n=none∧∀ x,vw (m.create n).1 x=if x=n then some [] else vw m x)∨((m.create n).2≠0∧SameV m (m.create n).1)):=by
 unfold Dk.create
 rw [if_neg (by rw [hl.down];decide)]
 split
 ·exact ⟨hl,hi,.inr ⟨by simp,SameV.refl _⟩⟩
 split
 ·exact ⟨hl,hi,.inr ⟨by simp,SameV.refl _⟩⟩
 split
 ·exact ⟨hl,hi,.inr ⟨by simp,SameV.refl _⟩⟩
 rename_i h1 h2 h3
 have hn:Dir.find n m.names=none:=by cases hf:Dir.find n m.names with | none=>rfl | some f=>rw [hf] at h2;exact absurd rfl h2
 obtain ⟨k1,k2 | k2⟩:=Jw hl (Dk.doCreate n) fun x=>⟨rfl,rfl⟩
 ·refine ⟨k1,?_⟩
  obtain ⟨k3,k4⟩:=Zil (n:=n) hi.soon (vw_none.2 hn)
  rw [k2.2]
  exact ⟨k3.of rfl rfl,.inl ⟨k2.1,vw_none.2 hn,fun x=>k4 x⟩⟩
 ·obtain ⟨k3,k4⟩:=hi.like k2.2.2
  exact ⟨k1,k3,.inr ⟨k2.1,k4⟩⟩
theorem Zcq (hi:FI m) (hl:Live m) (n:Nm) (b:List UInt8):Live (m.append n b).1∧FI (m.append n b).1 ∧
 (((m.append n b).2=0∧∃ old,vw m n=some old∧∀ x,vw (m.append n b).1 x=if x=n then some (old++b) else vw m x)∨((m.append n b).2≠0∧SameV m (m.append n b).1)):=by
 unfold Dk.append
 rw [if_neg (by rw [hl.down];decide)]
 split
 ·exact ⟨hl,hi,.inr ⟨by simp,SameV.refl _⟩⟩
 rename_i f hf
 split
 ·exact ⟨hl,hi,.inr ⟨by simp,SameV.refl _⟩⟩
 obtain ⟨k1,k2 | k2⟩:=Jw hl (Dk.doAppend f b) fun x=>⟨rfl,rfl⟩
 ·refine ⟨k1,?_⟩
  obtain ⟨k3,k4⟩:=Zim (n:=n) (b:=b) hi.soon hf
  rw [k2.2]
  exact ⟨k3.of rfl rfl,.inl ⟨k2.1,_,Zrn hf,fun x=>k4 x⟩⟩
 ·obtain ⟨k3,k4⟩:=hi.like k2.2.2
  exact ⟨k1,k3,.inr ⟨k2.1,k4⟩⟩
theorem Zro (hi:FI m) (hl:Live m) (n:Nm):Live (m.sync n).1∧FI (m.sync n).1∧SameV m (m.sync n).1:=by
 unfold Dk.sync
 rw [if_neg (by rw [hl.down];decide)]
 split
 ·exact ⟨hl,hi,SameV.refl _⟩
 rename_i f hf
 obtain ⟨k1,k2 | k2⟩:=Jw hl (Dk.doSync f) fun x=>⟨rfl,rfl⟩
 ·refine ⟨k1,?_⟩
  obtain ⟨k3,k4⟩:=Zlo hi.soon f
  rw [k2.2]
  exact ⟨k3.of rfl rfl,fun x=>k4 x⟩
 ·exact ⟨k1,hi.like k2.2.2⟩
theorem Zlp (hi:FI m) (hl:Live m) (n to:Nm):Live (m.rename n to).1∧FI (m.rename n to).1 ∧
 (((m.rename n to).2=0∧to≠n∧∃ old,vw m n=some old∧∀ x,vw (m.rename n to).1 x=if x=to then some old else if x=n then none else vw m x)∨((m.rename n to).2≠0∧SameV m (m.rename n to).1)):=by
 unfold Dk.rename
 rw [if_neg (by rw [hl.down];decide)]
 split
 ·exact ⟨hl,hi,.inr ⟨by simp,SameV.refl _⟩⟩
 rename_i f hf
 split
 ·exact ⟨hl,hi,.inr ⟨by simp,SameV.refl _⟩⟩
 rename_i hr
 have hne:to≠n:=fun e=>hr (.inr e)
 obtain ⟨k1,k2 | k2⟩:=Jw hl (Dk.doRename n to) fun x=>⟨rfl,rfl⟩
 ·refine ⟨k1,?_⟩
  obtain ⟨k3,k4⟩:=Zio (to:=to) hi.soon hf hne
  rw [k2.2]
  exact ⟨k3.of rfl rfl,.inl ⟨k2.1,hne,_,Zrn hf,fun x=>k4 x⟩⟩
 ·obtain ⟨k3,k4⟩:=hi.like k2.2.2
  exact ⟨k1,k3,.inr ⟨k2.1,k4⟩⟩
theorem Zlq (hi:FI m) (hl:Live m) (n:Nm):Live (m.remove n).1∧FI (m.remove n).1 ∧
 (((m.remove n).2=0∧∀ x,vw (m.remove n).1 x=if x=n then none else vw m x)∨((m.remove n).2≠0∧SameV m (m.remove n).1)):=by
 unfold Dk.remove
 rw [if_neg (by rw [hl.down];decide)]
 split
 ·exact ⟨hl,hi,.inr ⟨by simp,SameV.refl _⟩⟩
 rename_i f hf
 obtain ⟨k1,k2 | k2⟩:=Jw hl (Dk.doRemove f n) fun x=>⟨rfl,rfl⟩
 ·refine ⟨k1,?_⟩
  obtain ⟨k3,k4⟩:=Zin (n:=n) hi.soon f
  rw [k2.2]
  exact ⟨k3.of rfl rfl,.inl ⟨k2.1,fun x=>k4 x⟩⟩
 ·obtain ⟨k3,k4⟩:=hi.like k2.2.2
  exact ⟨k1,k3,.inr ⟨k2.1,k4⟩⟩
theorem Zka (hi:FI m) (hl:Live m):Live m.syncDir.1∧FI m.syncDir.1∧SameV m m.syncDir.1:=by
 obtain ⟨k1,k2 | k2⟩:=Jw hl (fun m=>m.keep m.pend.length) fun x=>⟨rfl,rfl⟩
 ·refine ⟨k1,?_⟩
  show FI (m.thing _).1∧SameV m (m.thing _).1
  rw [k2.2]
  exact ⟨hi.of rfl rfl,vw_of rfl rfl⟩
 ·exact ⟨k1,hi.like k2.2.2⟩
theorem Zkb (hi:FI m) (hl:Live m) (x:Int):Live (m.setFail x)∧FI (m.setFail x)∧SameV m (m.setFail x):=⟨⟨hl.down,hl.cut⟩,hi.of rfl rfl,vw_of rfl rfl⟩
end
structure SI (m:Dk) (a b:List Rc) (k:Nat):Prop where
 w:∃ U,SgW m U∧U≤26+8200*k
 one:Sg m 1 0 a
 two:Sg m 2 1 b
 ok:DkOk (100+8200*k) m
section
variable {m:Dk} {a b:List Rc} {k:Nat}
end
theorem Zhh {b:List UInt8} (more:List UInt8):(Z8 b++more).take 4=headB b.length:=by
 unfold Z8
 simp only [List.append_assoc]
 exact List.take_left' (by simp [headB])
theorem Zlr {b:List UInt8}:(Z8 b).take 4=headB b.length:=by
 have:=Zhh (b:=b) []
 rwa [List.append_nil] at this
theorem Zu7 {m:Dk} {n:Int} {x:Nat} {r:Rc} {more:List UInt8} {bs:List UInt8} (hr:Zq r) (hread:∀ a k,a+k≤bs.length→m.read (nmS n) (a:Nat) (k:Nat)=(some ((bs.drop a).take k),0)) (hx:bs.drop x=frS r++more) (hxl:x≤bs.length):getP m n x=(r,0):=by
 have hb:=Zid hr
 have hlen:bs.length=x+((frS r).length+more.length):=by
  have:=congrArg List.length hx
  rw [List.length_drop,List.length_append] at this
  omega
 have hf:(frS r).length=(putR r).length+8:=by rw [Zfx hr,Zl]
 have r4:=hread x 4 (by omega)
 have rf:=hread x ((putR r).length+8) (by omega)
 rw [hx,Zfx hr] at r4 rf
 rw [Zhh] at r4
 rw [List.take_left' (Zl _)] at rf
 have h21:(Zi (headB (putR r).length)).2.2=21:=by
  have:=Ze4 (putR r) hb.1 hb.2 4 (by omega)
  rw [Zlr] at this
  rw [this]
 have ht:toldN (headB (putR r).length)=(putR r).length:=by
  have:=Ze3 (putR r).length hb.2 []
  rwa [List.append_nil] at this
 have hs:sizeN ((putR r).length:Int)=(((putR r).length+8:Nat):Int):=by
  unfold sizeN
  rw [if_pos (by omega)]
  omega
 have hfp:Zah m n x=(some (Z8 (putR r)),0):=by
  unfold Zah
  rw [show (4:Int)=((4:Nat):Int) from rfl,r4]
  simp only [Option.getD_some]
  rw [if_pos trivial,if_pos h21,ht,hs,rf]
  rfl
 have hfb:=Znf (putR r) [] hb.1 hb.2
 rw [List.append_nil] at hfb
 unfold getP
 rw [hfp]
 simp only [Option.getD_some]
 rw [hfb]
 simp only [Zu1 hr,Option.isSome_some,Option.getD_some,if_true]
theorem Zrp (n:Int) (us:List Rc) (r:Rc) (bs:List Rc):(segB n (us++r :: bs)).drop (13+(Zax us).length)=frS r++Zax bs:=by
 have h1:segB n (us++r :: bs)=segB n us++(frS r++Zax bs):=by
  unfold segB Zax frS
  rw [List.map_append,←List.cons_append,putL_append,List.map_cons]
  rfl
 rw [h1]
 exact List.drop_left' (J9 n us)
section
variable {m:Dk} {U:Nat} {n:Int} {f:Nat}
def B1 (n:Int):Dk:=(makeP A0 n).1
end
structure SB (m:Dk) (n:Int) (a:List Rc) (k:Nat):Prop where
 w:∃ U,SgW m U∧U≤13+8200*k
 sg:Sg m n 0 a
 ok:DkOk (8202+8200*k) m
 len:(segB n a).length≤13+8200*k
section
variable {m:Dk} {n:Int} {a:List Rc} {k:Nat}
end
structure WS (m:Dk) (U N:Nat):Prop where
 well:Well m
 fi:FI m
 most:m.most=4194304
 used:-(U:Int)≤m.used∧m.used≤U
 names:m.names.length≤N
section
variable {m:Dk} {U N U' N':Nat} {n to:Nm} {b old:List UInt8}
theorem Zip {a c:Int} (ha:0≤a∧a≤99999999) (h:nmS a=nmS c):a=c:=by
 have h1:=Zc9 1 a (Zgf ha)
 have h2:=Zc9 1 c (by rw [show ofP 1 c=nmS c from rfl,←h];exact Zgf ha)
 rw [show ofP 1 a=nmS a from rfl,h,show nmS c=ofP 1 c from rfl,h2] at h1
 injection h1 with h1
 injection h1 with _ h1
 exact h1.symm
theorem S_H {a c:Int} (ha:0≤a∧a≤99999999):nmS a≠nmH c:=fun h=>by
 have h1:=Zc9 1 a (Zgf ha)
 have h2:=Zc9 2 c (by rw [show ofP 2 c=nmH c from rfl,←h];exact Zgf ha)
 rw [show ofP 1 a=nmS a from rfl,h,show nmH c=ofP 2 c from rfl,h2] at h1
 cases h1
theorem S_M {a:Int}:nmS a≠nmM:=fun h=>by
 have:isS (nmS a)=isS nmM:=by rw [h]
 unfold nmS ofP at h
 split at h
 ·cases h
 ·rw [if_pos rfl] at h;cases h
theorem S_T {a:Int}:nmS a≠nmT:=fun h=>by
 unfold nmS ofP at h
 split at h
 ·cases h
 ·rw [if_pos rfl] at h;cases h
theorem Zvs {us bs:List Rc} {r:Rc} {n:Int} (hd:m.down=false) (hv:vw m (nmS n)=some (segB n (us++r :: bs))) (hr:Zq r):getP m n ((13+(Zax us).length:Nat):Int)=(r,0) :=
 Zu7 hr (fun a k hak=>by
  rw [Zu6 hd,hv]
  dsimp only
  rw [if_neg (by omega)]
  have e1:(a:Int).toNat=a:=Int.toNat_natCast _
  have e2:(k:Int).toNat=k:=Int.toNat_natCast _
  rw [e1,e2]) (Zrp n us r bs) (by rw [J9];unfold Zax;rw [List.map_append,putL_append,List.length_append];omega)
end
structure Kp (m m':Dk) (X:Nm→Prop) (k:Nat):Prop where
 live:Live m'
 fi:FI m'
 same:∀ x,¬ X x→vw m' x=vw m x
 few:m'.names.length≤m.names.length+k
section
variable {m m' a b c:Dk} {X Y:Nm→Prop} {k j:Nat} {n to:Nm}
theorem Kp.refl (hl:Live m) (hi:FI m) (X:Nm→Prop):Kp m m X 0:=⟨hl,hi,fun _ _=>rfl,Nat.le_refl _⟩
theorem Kp.trans (h:Kp a b X k) (h':Kp b c X j):Kp a c X (k+j):=⟨h'.live,h'.fi,fun x hx=>(h'.same x hx).trans (h.same x hx),by have:=h.few;have:=h'.few;omega⟩
theorem Kp.wider (h:Kp a b X k) (hX:∀ x,X x→Y x) (hk:k≤j):Kp a b Y j:=⟨h.live,h.fi,fun x hx=>h.same x fun e=>hx (hX x e),by have:=h.few;omega⟩
theorem Zay (does:Dk→Dk) (k:Nat) (hd:∀ x:Dk,x.names=m.names→(does x).names.length≤m.names.length+k):(m.thing does).1.names.length≤m.names.length+k:=by
 unfold Dk.thing
 split
 ·exact Nat.le_add_right _ _
 split
 ·exact Nat.le_add_right _ _
 split
 ·exact Nat.le_add_right _ _
 ·exact hd m.sooner rfl
theorem Ztr {f:Nat} {l:Dir} (h:Dir.find n l=some f):(Dir.del n l).length+1≤l.length:=by
 have hm:=Zhw h
 unfold Dir.del
 refine Nat.succ_le_of_lt (Nat.lt_of_le_of_ne (List.length_filter_le _ _) fun e=>?_)
 have:=List.length_filter_eq_length_iff.1 e (n,f) hm
 simp at this
theorem Zf1 (hl:Live m) (hi:FI m) (n:Nm):Kp m (m.create n).1 (fun x=>x=n) 1:=by
 obtain ⟨k1,k2,k3⟩:=Zf3 hi hl n
 refine ⟨k1,k2,fun x hx=>?_,?_⟩
 ·rcases k3 with ⟨_,_,h⟩ | ⟨_,h⟩
  ·rw [h,if_neg hx]
  ·exact h x
 ·unfold Dk.create
  split
  ·exact Nat.le_add_right _ _
  split
  ·exact Nat.le_add_right _ _
  split
  ·exact Nat.le_add_right _ _
  split
  ·exact Nat.le_add_right _ _
  ·refine Zay _ 1 fun x hx=>?_
   show (Dir.put n x.made x.names).length≤_
   rw [hx]
   exact Zct _ _ _
theorem Zdh (hl:Live m) (hi:FI m) (n:Nm) (bs:List UInt8):Kp m (m.append n bs).1 (fun x=>x=n) 0:=by
 obtain ⟨k1,k2,k3⟩:=Zcq hi hl n bs
 refine ⟨k1,k2,fun x hx=>?_,?_⟩
 ·rcases k3 with ⟨_,_,_,h⟩ | ⟨_,h⟩
  ·rw [h,if_neg hx]
  ·exact h x
 ·unfold Dk.append
  split
  ·exact Nat.le_refl _
  split
  ·exact Nat.le_refl _
  split
  ·exact Nat.le_refl _
  ·exact Zay _ 0 fun x hx=>Nat.le_of_eq (congrArg List.length hx)
theorem Zln (hl:Live m) (hi:FI m) (n:Nm):Kp m (m.sync n).1 (fun _=>False) 0:=by
 obtain ⟨k1,k2,k3⟩:=Zro hi hl n
 refine ⟨k1,k2,fun x _=>k3 x,?_⟩
 unfold Dk.sync
 split
 ·exact Nat.le_refl _
 split
 ·exact Nat.le_refl _
 ·exact Zay _ 0 fun x hx=>Nat.le_of_eq (congrArg List.length hx)
theorem Zrl (hl:Live m) (hi:FI m) (n to:Nm):Kp m (m.rename n to).1 (fun x=>x=n∨x=to) 0:=by
 obtain ⟨k1,k2,k3⟩:=Zlp hi hl n to
 refine ⟨k1,k2,fun x hx=>?_,?_⟩
 ·rcases k3 with ⟨_,_,_,_,h⟩ | ⟨_,h⟩
  ·rw [h,if_neg fun e=>hx (.inr e),if_neg fun e=>hx (.inl e)]
  ·exact h x
 ·unfold Dk.rename
  split
  ·exact Nat.le_refl _
  split
  ·exact Nat.le_refl _
  rename_i f hf
  split
  ·exact Nat.le_refl _
  ·refine Zay _ 0 fun x hx=>?_
   show ((Ch.moved n to).on x.names).length≤_
   rw [hx]
   show (match Dir.find n m.names with | some f=>Dir.put to f (Dir.del n m.names) | none=>m.names).length≤_
   rw [hf]
   have h1:=Zct to f (Dir.del n m.names)
   have h2:=Ztr hf
   dsimp only
   omega
theorem Zf2 (hl:Live m) (hi:FI m) (n:Nm):Kp m (m.remove n).1 (fun x=>x=n) 0:=by
 obtain ⟨k1,k2,k3⟩:=Zlq hi hl n
 refine ⟨k1,k2,fun x hx=>?_,?_⟩
 ·rcases k3 with ⟨_,h⟩ | ⟨_,h⟩
  ·rw [h,if_neg hx]
  ·exact h x
 ·unfold Dk.remove
  split
  ·exact Nat.le_refl _
  split
  ·exact Nat.le_refl _
  ·refine Zay _ 0 fun x hx=>?_
   show (Dir.del n x.names).length≤_
   rw [hx]
   exact List.length_filter_le _ _
theorem Zoc (hl:Live m) (hi:FI m):Kp m m.syncDir.1 (fun _=>False) 0:=by
 obtain ⟨k1,k2,k3⟩:=Zka hi hl
 exact ⟨k1,k2,fun x _=>k3 x,Zay _ 0 fun x hx=>Nat.le_of_eq (congrArg List.length hx)⟩
theorem Zu4 (hl:Live m) (hi:FI m) (x:Int):Kp m (m.setFail x) (fun _=>False) 0:=by
 obtain ⟨k1,k2,k3⟩:=Zkb hi hl x
 exact ⟨k1,k2,fun x _=>k3 x,Nat.le_refl _⟩
inductive Kps (X:Nm→Prop):List (Dk→Dk×Int)→Nat→Prop where
 | nil:Kps X [] 0
 | cons {f:Dk→Dk×Int} {fs:List (Dk→Dk×Int)} {k j:Nat} (h:∀ m,Live m→FI m→Kp m (f m).1 X k) (hs:Kps X fs j):Kps X (f :: fs) (k+j)
theorem Zt7 {X:Nm→Prop} {fs:List (Dk→Dk×Int)} {k:Nat} (h:Kps X fs k):∀ m,Live m→FI m→Kp m (seqP fs m).1 X k:=by
 induction h with
 | nil=>exact fun m hl hi=>Kp.refl hl hi X
 | cons h1 h2 ih =>
   intro m hl hi
   have a:=h1 m hl hi
   rw [seqP]
   split
   ·exact a.trans (ih _ a.live a.fi)
   ·exact a.wider (fun _ h=>h) (Nat.le_add_right _ _)
theorem Zrm (hl:Live m) (hi:FI m) (x:Mn):Kp m (saveP m x).1 (fun n=>n=nmT∨n=nmM) 1:=by
 unfold saveP
 split
 ·refine Zt7 (k:=0+(1+(0+(0+(0+(0+0)))))) ?_ m hl hi
  unfold Yj
  refine .cons (fun m hl hi=>?_) (.cons (fun m hl hi=>(Zf1 hl hi nmT).wider (fun _ h=>.inl h) (Nat.le_refl _)) (.cons (fun m hl hi=>(Zdh hl hi nmT _).wider (fun _ h=>.inl h) (Nat.le_refl _)) (.cons (fun m hl hi=>(Zln hl hi nmT).wider (fun _ h=>h.elim) (Nat.le_refl _)) (.cons (fun m hl hi=>Zrl hl hi nmT nmM) (.cons (fun m hl hi=>(Zoc hl hi).wider (fun _ h=>h.elim) (Nat.le_refl _)) .nil)))))
  unfold leftP
  split
  ·exact (Zf2 hl hi nmT).wider (fun _ h=>.inl h) (Nat.le_refl _)
  ·exact Kp.refl hl hi _
 ·exact (Kp.refl hl hi _).wider (fun _ h=>h) (Nat.zero_le _)
theorem Zu5 (hl:Live m) (hi:FI m) (n:Int):Kp m (makeP m n).1 (fun x=>x=nmS n) 1∧((makeP m n).2=0→vw (makeP m n).1 (nmS n)=some (segB n [])):=by
 have h1:=Zf1 hl hi (nmS n)
 have v1:=Zf3 hi hl (nmS n)
 unfold makeP
 split
 rotate_left 1
 ·rename_i he
  exact ⟨h1,fun e=>absurd e he⟩
 rename_i hc
 have h2:=Zdh h1.live h1.fi (nmS n) (putB (Zy n))
 have v2:=Zcq h1.fi h1.live (nmS n) (putB (Zy n))
 have h12:Kp m ((m.create (nmS n)).1.append (nmS n) (putB (Zy n))).1 (fun x=>x=nmS n) 1:=h1.trans h2
 split
 ·rename_i ha
  refine ⟨h12,fun _=>?_⟩
  rcases v1.2.2 with ⟨_,_,hv⟩ | ⟨he,_⟩
  ·rcases v2.2.2 with ⟨_,old,ho,hv2⟩ | ⟨he,_⟩
   ·rw [hv,if_pos rfl] at ho
    injection ho with ho
    dsimp only
    rw [hv2,if_pos rfl,←ho]
    unfold segB
    rw [List.nil_append,List.map_nil,putL,putL,List.append_nil]
   ·exact absurd ha he
  ·exact absurd hc he
 ·rename_i ha
  exact ⟨h12.trans (Zf2 h12.live h12.fi (nmS n)),fun e=>absurd e ha⟩
theorem Zts (hl:Live m) (hi:FI m) (n:Int):Kp m (Zeo m n) (fun x=>x=nmH n) 1:=by
 unfold Zeo
 refine Zt7 (k:=1+(0+(0+0))) ?_ m hl hi
 unfold Zhm
 exact .cons (fun m hl hi=>Zf1 hl hi _) (.cons (fun m hl hi=>Zdh hl hi _ _) (.cons (fun m hl hi=>(Zln hl hi _).wider (fun _ h=>h.elim) (Nat.le_refl _)) .nil))
theorem removes_kp:∀ (l:List Nm) {m:Dk},Live m→FI m→Kp m (Z7 l m) (fun x=>x∈l) 0
 | [],m,hl,hi=>Kp.refl hl hi _
 | n :: l,m,hl,hi=>by
   have h1:=Zf2 hl hi n
   have h2:=removes_kp l h1.live h1.fi
   have hr:Z7 (n :: l) m=Z7 l (m.remove n).1:=rfl
   rw [hr]
   exact (h1.wider (fun x e=>e ▸ List.mem_cons_self ..) (Nat.le_refl _)).trans (h2.wider (fun x e=>List.mem_cons_of_mem _ e) (Nat.le_refl _))
theorem Zvr (hl:Live m) (hi:FI m) (n:Int) (r:Rc) {old:List UInt8} (ho:vw m (nmS n)=some old):Kp m (addP m n r).1 (fun x=>x=nmS n) 0 ∧
 ((addP m n r).2.2.2=0∧Zq r∧(addP m n r).2=((old.length:Int),((frS r).length:Int),0)∧vw (addP m n r).1 (nmS n)=some (old++frS r)∨(addP m n r).2.2.2≠0∧vw (addP m n r).1 (nmS n)=some old):=by
 have h1:=Zdh hl hi (nmS n) (frS r)
 have v1:=Zcq hi hl (nmS n) (frS r)
 unfold addP
 split
 rotate_left 1
 ·exact ⟨Kp.refl hl hi _,.inr ⟨by show (1:Int)≠0;omega,ho⟩⟩
 rename_i hr
 split
 ·rename_i ha
  refine ⟨h1,.inl ⟨rfl,hr,?_,?_⟩⟩
  ·show ((m.size (nmS n)).1,_,_)=_
   rw [Zik,ho]
  ·rcases v1.2.2 with ⟨_,o,ho2,hv⟩ | ⟨he,_⟩
   ·rw [ho] at ho2
    injection ho2 with ho2
    dsimp only
    rw [hv,if_pos rfl,ho2]
   ·exact absurd ha he
 ·rename_i ha
  refine ⟨h1,.inr ⟨ha,?_⟩⟩
  rcases v1.2.2 with ⟨he,_⟩ | ⟨_,hv⟩
  ·exact absurd he ha
  ·exact (hv _).trans ho
end
def Zu8 (L:Lg) (rs:Int→List Rc):Nat:=if L.last=-1 then 0 else (segB L.last (rs L.last)).length
def Zvt (n:Int) (l:List Rc):List UInt8:=putH (Zar (foundL l 13)) (segB n l).length
structure LW (k:Nat) (L:Lg) (rs:Int→List Rc):Prop where
 r:LgR L
 ws:∃ U,WS L.dk U (4*k)∧U+2*Zu8 L rs≤33000*k
 segs:∀ n∈L.man.segs,vw L.dk (nmS n)=some (segB n (rs n))∧(∀ r∈rs n,Zq r)∧(segB n (rs n)).length≤13+8200*k
 only:∀ n,0≤n∧n≤99999999→¬ n∈L.man.segs→vw L.dk (nmS n)=none
 noT:vw L.dk nmT=none
 man:∀ b,vw L.dk nmM=some b→b.length≤4015
 hint:∀ n∈L.man.segs,n≠L.last→vw L.dk (nmH n)=some (Zvt n (rs n))
 nohint:∀ n,0≤n∧n≤99999999→(¬ n∈L.man.segs∨n=L.last)→vw L.dk (nmH n)=none
 next:L.man.next≤k+1
 few:L.man.segs.length≤k
section
variable {k:Nat} {L:Lg} {rs:Int→List Rc}
end
def LG0 (limit:Int):Lg:=⟨Dk.new 4194304,limit,⟨[],1⟩,-1⟩
theorem Ztt {limit:Int} (h:64≤limit∧limit≤1073741824):openP (Dk.new 4194304) limit=(some (LG0 limit),0):=by
 unfold openP
 rw [if_neg (by omega)]
 rfl
theorem LW.new {limit:Int} (h:64≤limit∧limit≤1073741824):LW 0 (LG0 limit) fun _=>[] :=
 ⟨⟨show Ya ⟨[],1⟩=true by decide,.inl rfl,h⟩,⟨0,⟨⟨by kernel_rfl,Zlk (show (LG0 limit).dk.cut=-1 by kernel_rfl),Zlk (show (LG0 limit).dk.fail=-1 by kernel_rfl)⟩,FI.new _,rfl,⟨show -((0:Nat):Int)≤0 by omega,show (0:Int)≤((0:Nat):Int) by omega⟩,Nat.le_refl 0⟩,Nat.le_refl 0⟩,fun n hn=>(by cases hn),fun n _ _=>rfl,rfl,fun b hb=>(by cases hb),fun n hn=>(by cases hn),fun n _ _=>rfl,by show (1:Int)≤_;omega,Nat.le_refl 0⟩
section
variable {k:Nat} {L:Lg} {rs:Int→List Rc}
end
def GI (L:Lg) (j:Nat) (rs:List Rc):Prop:=L.limit=1048576∧(rs=[]∧L=LG0 1048576∨rs≠[]∧L.man.segs=[1]∧L.last=1∧∃ f,f 1=rs∧LW (j+1) L f)
section
variable {L:Lg} {j:Nat} {rs:List Rc}
end
structure GJ (L:Lg) (j:Nat) (rs:List Rc):Prop where
 gi:GI L j rs
 ok:∃ S,LOk (6*j) S L.dk∧13≤S∧S≤13+8200*j∧(rs=[]→S=13)
section
variable {L:Lg} {j:Nat} {rs:List Rc}
end
section
variable {k:Nat} {L:Lg} {rs:Int→List Rc}
end
structure RO (i:Nat) (L:Lg) (lv:Int):Prop where
 lw:∃ rs,LW (2*i) L rs∧∀ n∈L.man.segs,(segB n (rs n)).length≤8213
 ok:LOk (12*i) 8213 L.dk
 len:L.man.segs.length=i
 lt:0≤lv∧lv < L.man.next∧(0 < lv→lv∈L.man.segs∧lv=L.last)
structure RM (i:Nat) (L:Lg) (lv n:Int):Prop where
 lw:∃ rs,LW (2*i+1) L rs∧(∀ n∈L.man.segs,(segB n (rs n)).length≤8213)∧rs L.last=[]
 ok:LOk (12*i+6) 8213 L.dk
 len:L.man.segs.length=i+1
 last:L.last=n∧n∈L.man.segs∧n < L.man.next
 lt:0≤lv∧lv < n∧(0 < lv→lv∈L.man.segs)
section
variable {i:Nat} {L:Lg} {lv n:Int}
end
theorem Ints.blk {W:World} {A:Option Addr} {n c:Nat} {xs:List Int} (h:Ints W A n c xs):∀ ad,A=some ad→xs≠[]→ad.block < W.heap.size:=by
 intro ad hA hne
 have hl:=h.len
 have hn:0 < n:=by rw [←hl];exact List.length_pos_iff.2 hne
 obtain ⟨ad',y,e,hc,_,hb⟩:=h.get hn
 rw [hA] at e
 injection e with e
 rw [e]
 exact hb
structure DR (i:Nat) (L:Lg):Prop where
 lw:∃ rs,LW (2*i) L rs
 ok:LOk (6*i) 65599 L.dk
 lim:L.limit≤65599
section
variable {i:Nat} {L:Lg}
end
theorem Zvu {l:List Int} (hl:∀ n∈l,0≤n∧n≤99999999) {a:Int} (ha:0≤a∧a≤99999999):nmS a∈goneN l↔a∈l:=by
 unfold goneN
 rw [List.mem_flatMap]
 constructor
 ·rintro ⟨n,hn,hx⟩
  simp only [List.mem_cons,List.not_mem_nil,or_false] at hx
  rcases hx with hx | hx
  ·rw [Zip ha hx];exact hn
  ·exact absurd hx (S_H ha)
 ·exact fun h=>⟨a,h,List.mem_cons_self ..⟩
end Go.Proofs.YtkelafkbmnjpeaaGreat
