/-
  Texts that the statements lean on, one behind the other.
-/
import Derived.Test.YtkelafkbmnjpeaaGreatMG09
import Derived.KernelRfl
import Derived.Test.YtkelafkbmnjpeaaGreatMG01
import Derived.Laws.AppendOwn
import Derived.LoopTactic
import Derived.IntWalk
import Derived.OwnWalk
import Derived.Lib.Hide
set_option linter.unusedSimpArgs false
set_option linter.unusedVariables false
namespace Go.Proofs.YtkelafkbmnjpeaaGreat

abbrev Lc:=Int×Int×Int
structure Rc where
 kind:Int
 key:List UInt8
 id:Int
 no:Int
 size:Int
 locs:List Lc
 b:List UInt8
 deriving DecidableEq
def Rc.none:Rc:=⟨0,[],0,0,0,[],[]⟩

def LocOk (l:Lc):Prop:=(0≤l.1∧l.1≤99999999)∧(0≤l.2.1∧l.2.1≤1073741824)∧(1≤l.2.2∧l.2.2≤4096)
instance (l:Lc):Decidable (LocOk l):=by unfold LocOk;infer_instance
def sumN:List Lc→Int
 | []=>0
 | l :: ls=>l.2.2+sumN ls
def KeyOk (k:List UInt8):Prop:=1≤k.length∧k.length≤64
instance (k:List UInt8):Decidable (KeyOk k):=by unfold KeyOk;infer_instance
def IdOk (i:Int):Prop:=0≤i∧i≤1099511627776
instance (i:Int):Decidable (IdOk i):=by unfold IdOk;infer_instance
def Yu (ls:List Lc) (size:Int):Prop:=ls.length≤512∧(∀ l∈ls,LocOk l)∧sumN ls=size
instance (ls:List Lc) (size:Int):Decidable (Yu ls size):=by unfold Yu;infer_instance

def Bare (r:Rc):Prop:=r.id=0∧r.no=0∧r.size=0∧r.locs.length=0
def Jm (r:Rc):Prop:=r.key.length < 1∧r.size=0∧r.locs.length=0∧IdOk r.id∧(0≤r.no∧r.no≤511)∧1≤r.b.length∧r.b.length≤4096
def Zbq (r:Rc):Prop:=r.no=0∧r.b.length=0∧KeyOk r.key∧IdOk r.id∧(1≤r.size∧r.size≤65536)∧Yu r.locs r.size
def Y4 (r:Rc):Prop:=Bare r∧KeyOk r.key∧r.b.length≤4096
def Zbr (r:Rc):Prop:=Bare r∧KeyOk r.key∧r.b.length=0
def Zq (r:Rc):Prop:=(r.kind=1∧Jm r)∨(r.kind=2∧Zbq r)∨(r.kind=3∧Y4 r)∨(r.kind=4∧Zbr r)
instance (r:Rc):Decidable (Zq r):=by unfold Zq Jm Zbq Y4 Zbr Bare;infer_instance

def byteI (n:Int):UInt8:=UInt8.ofNat (n % 256).toNat
theorem Yn (n:Int):((byteI n).toNat:Int)=n % 256:=by
 unfold byteI
 rw [UInt8.toNat_ofNat']
 omega
def numB (n:Int):Nat→List UInt8
 | 0=>[]
 | k+1=>byteI (n / 256 ^ k) :: numB n k
theorem Z1 (n:Int):∀ k,(numB n k).length=k
 | 0=>rfl
 | k+1=>by rw [numB,List.length_cons,Z1 n k]
def valB (bs:List UInt8):Int:=bs.foldl (fun (n:Int) c=>256*n+(c.toNat:Int)) 0
theorem Zpe (bs:List UInt8) (c:UInt8):valB (bs++[c])=256*valB bs+(c.toNat:Int):=by
 unfold valB
 rw [List.foldl_append]
 rfl
theorem Ze2 (c:UInt8) (bs:List UInt8):valB (c :: bs)=(c.toNat:Int)*256 ^ bs.length+valB bs:=by
 have key:∀ (bs:List UInt8) (n:Int),bs.foldl (fun (n:Int) c=>256*n+(c.toNat:Int)) n=n*256 ^ bs.length+valB bs:=by
  intro bs
  induction bs with
  | nil=>intro n;simp [valB]
  | cons d bs ih =>
    intro n
    unfold valB
    rw [List.foldl_cons,List.foldl_cons,ih,ih (256*0+_),List.length_cons,Int.pow_succ]
    generalize (256:Int) ^ bs.length=p
    rw [Int.add_mul,Int.mul_zero,Int.zero_add,Int.add_assoc]
    congr 1
    rw [Int.mul_comm 256 n,Int.mul_assoc,Int.mul_comm 256 p]
 unfold valB
 rw [List.foldl_cons,key,Int.mul_zero,Int.zero_add]
 rfl
theorem Zam (bs:List UInt8):0≤valB bs∧valB bs < 256 ^ bs.length:=by
 induction bs with
 | nil=>exact ⟨by decide,by decide⟩
 | cons c bs ih =>
   rw [Ze2,List.length_cons,Int.pow_succ]
   have hc:(c.toNat:Int)≤255:=by have:=c.toNat_lt;omega
   obtain ⟨h1,h2⟩:=ih
   have hp:(0:Int) < 256 ^ bs.length:=Int.pow_pos (by decide)
   generalize (256:Int) ^ bs.length=p at *
   have h3:(c.toNat:Int)*p≤255*p:=Int.mul_le_mul_of_nonneg_right hc (by omega)
   have h4:0≤(c.toNat:Int)*p:=Int.mul_nonneg (by omega) (by omega)
   omega
theorem Zjf (n:Int) (h0:0≤n):∀ k,valB (numB n k)=n % 256 ^ k
 | 0=>by simp [numB,valB,Int.emod_one]
 | k+1=>by
   rw [numB,Ze2,Z1,Zjf n h0 k,Yn,Int.pow_succ]
   have hp:(0:Int) < 256 ^ k:=Int.pow_pos (by decide)
   generalize (256:Int) ^ k=p at *
   have h1:=Int.emod_add_mul_ediv n p
   have h2:=Int.emod_add_mul_ediv (n / p) 256
   have h3:n / p / 256=n / (p*256):=by rw [Int.ediv_ediv_of_nonneg (by omega)]
   have h4:=Int.emod_add_mul_ediv n (p*256)
   rw [←h3] at h4
   generalize n / p / 256=q at *
   generalize n / p=m at *
   generalize m % 256=x at *
   have h5:p*m=p*x+p*(256*q):=by rw [←Int.mul_add,h2]
   have h6:p*256*q=p*(256*q):=by rw [Int.mul_assoc]
   rw [h6] at h4
   rw [Int.mul_comm x p]
   generalize p*(256*q)=z at *
   generalize p*x=y at *
   generalize n % (p*256)=u at *
   generalize n % p=v at *
   generalize p*m=t at *
   omega
theorem Zum (n:Int) (k:Nat) (h0:0≤n) (h:n < 256 ^ k):valB (numB n k)=n:=by
 rw [Zjf n h0 k,Int.emod_eq_of_lt h0 h]
theorem numB_valB:∀ (bs:List UInt8) (q:Int),numB (q*256 ^ bs.length+valB bs) bs.length=bs
 | [],_=>rfl
 | c :: bs,q=>by
   rw [List.length_cons,numB,Ze2,Int.pow_succ]
   have hb:=Zam bs
   have hp:(0:Int) < 256 ^ bs.length:=Int.pow_pos (by decide)
   have hc:=c.toNat_lt
   have e:q*(256 ^ bs.length*256)+((c.toNat:Int)*256 ^ bs.length+valB bs)=(q*256+(c.toNat:Int))*256 ^ bs.length+valB bs:=by
    generalize (256:Int) ^ bs.length=p
    rw [Int.add_mul,Int.mul_assoc,Int.mul_comm 256 p]
    omega
   rw [e,numB_valB bs (q*256+(c.toNat:Int))]
   congr 1
   have h1:((q*256+(c.toNat:Int))*256 ^ bs.length+valB bs) / 256 ^ bs.length=q*256+(c.toNat:Int):=by
    rw [Int.add_comm,Int.add_mul_ediv_right _ _ (by omega),Int.ediv_eq_zero_of_lt hb.1 hb.2,Int.zero_add]
   rw [h1]
   unfold byteI
   apply UInt8.toNat_inj.1
   rw [UInt8.toNat_ofNat']
   omega
theorem Zne (bs:List UInt8):numB (valB bs) bs.length=bs:=by
 have:=numB_valB bs 0
 rwa [Int.zero_mul,Int.zero_add] at this

def locB (l:Lc):List UInt8:=numB l.1 4++(numB l.2.1 4++numB l.2.2 2)
def locsB:List Lc→List UInt8
 | []=>[]
 | l :: ls=>locB l++locsB ls
theorem Zks (l:Lc):(locB l).length=10:=by simp [locB,Z1]
theorem locsB_length:∀ ls,(locsB ls).length=10*ls.length
 | []=>rfl
 | l :: ls=>by rw [locsB,List.length_append,Zks,locsB_length ls,List.length_cons];omega
theorem locsB_append:∀ a b,locsB (a++b)=locsB a++locsB b
 | [],_=>rfl
 | l :: a,b=>by rw [List.cons_append,locsB,locsB,locsB_append a b,List.append_assoc]
def keyP (k:List UInt8):List UInt8:=byteI k.length :: k
def bodyR (r:Rc):List UInt8 :=
 if r.kind=1 then numB r.id 6++(numB r.no 2++r.b)
 else if r.kind=2 then keyP r.key++(numB r.id 6++(numB r.size 3++(numB r.locs.length 2++locsB r.locs)))
 else if r.kind=3 then keyP r.key++r.b
 else r.key
def putR (r:Rc):List UInt8:=if Zq r then byteI r.kind :: bodyR r else []

abbrev Src:=List UInt8×Bool
def takeS (s:Src) (n:Int):List UInt8×Src:=if s.2=true∨(s.1.length:Int) < n then ([],(s.1,true)) else (s.1.take n.toNat,(s.1.drop n.toNat,false))
def numS (s:Src) (k:Int):Int×Src:=(valB (takeS s k).1,(takeS s k).2)
def keyS (s:Src):List UInt8×Src:=takeS (numS s 1).2 (numS s 1).1
def restS (s:Src):List UInt8×Src:=takeS s s.1.length
def locS (s:Src):Lc×Src :=
 let x:=numS s 4
 let y:=numS x.2 4
 let z:=numS y.2 2
 ((x.1,y.1,z.1),z.2)
def locsL:Nat→Src→List Lc→List Lc×Src
 | 0,s,acc=>(acc,s)
 | k+1,s,acc=>if (locS s).2.2=true then ([],(locS s).2) else locsL k (locS s).2 (acc++[(locS s).1])
def locsS (s:Src):List Lc×Src:=locsL (numS s 2).1.toNat (numS s 2).2 []
def J0 (s:Src):Rc×Src :=
 let x:=numS s 6
 let y:=numS x.2 2
 let z:=restS y.2
 (⟨0,[],x.1,y.1,0,[],z.1⟩,z.2)
def rootS (s:Src):Rc×Src :=
 let k:=keyS s
 let x:=numS k.2 6
 let y:=numS x.2 3
 let z:=locsS y.2
 (⟨0,k.1,x.1,0,y.1,z.1,[]⟩,z.2)
def Yy (s:Src):Rc×Src :=
 let k:=keyS s
 let z:=restS k.2
 (⟨0,k.1,0,0,0,[],z.1⟩,z.2)
def tombS (s:Src):Rc×Src:=(⟨0,(restS s).1,0,0,0,[],[]⟩,(restS s).2)
def partS (k:Int) (s:Src):Rc×Src:=if k=1 then J0 s else if k=2 then rootS s else if k=3 then Yy s else tombS s
def getR:List UInt8→Option Rc
 | []=>Option.none
 | c :: bs =>
   if 1≤c.toNat∧c.toNat≤4 then
    if ((partS c.toNat (bs,false)).2.2=false∧(partS c.toNat (bs,false)).2.1=[])∧Zq { (partS c.toNat (bs,false)).1 with kind:=c.toNat } then some { (partS c.toNat (bs,false)).1 with kind:=c.toNat } else Option.none
   else Option.none
end Go.Proofs.YtkelafkbmnjpeaaGreat

namespace Go.Proofs.YtkelafkbmnjpeaaGreat

def stepN (n:Nat):Nat:=if n % 2=1 then (n / 2) ^^^ 2197175160 else n / 2
def iterN:Nat→Nat→Nat
 | 0,n=>n
 | k+1,n=>stepN (iterN k n)
theorem Zsa (n:Nat) (h:n < 4294967296):stepN n < 4294967296:=by
 unfold stepN
 split
 ·exact Nat.xor_lt_two_pow (n:=32) (by omega) (by omega)
 ·omega
theorem Zl7 (k n:Nat) (h:n < 4294967296):iterN k n < 4294967296:=by
 induction k with
 | zero=>exact h
 | succ k ih=>exact Zsa _ ih
theorem Zsb (s:Nat) (h:s < 4294967296):4294967295 ^^^ s=4294967295 - s:=by
 have h1:(BitVec.allOnes 32 ^^^ BitVec.ofNat 32 s).toNat=4294967295 - s:=by
  rw [BitVec.allOnes_xor,BitVec.toNat_not,BitVec.toNat_ofNat,Nat.mod_eq_of_lt h]
 rw [BitVec.toNat_xor,BitVec.toNat_ofNat,Nat.mod_eq_of_lt h] at h1
 exact h1

def tabN (i:Nat):Nat:=iterN 8 i
theorem Zun (i:Nat) (h:i < 256):tabN i < 4294967296:=Zl7 8 i (by omega)

def nextN (f:Nat→Nat) (s:Nat) (c:UInt8):Nat:=s / 256 ^^^ f ((s ^^^ c.toNat) % 256)
def runN (f:Nat→Nat) (s:Nat) (bs:List UInt8):Nat:=bs.foldl (nextN f) s
def onN (f:Nat→Nat) (s:Nat) (bs:List UInt8):Nat:=4294967295 - runN f (4294967295 - s) bs

theorem Zsc (f:Nat→Nat) (hf:∀ i,i < 256→f i < 4294967296) (s:Nat) (c:UInt8) (h:s < 4294967296):nextN f s c < 4294967296 :=
 Nat.xor_lt_two_pow (n:=32) (by omega) (hf _ (by omega))
theorem Zuo (f:Nat→Nat) (hf:∀ i,i < 256→f i < 4294967296) (bs:List UInt8) (s:Nat) (h:s < 4294967296):runN f s bs < 4294967296:=by
 induction bs generalizing s with
 | nil=>exact h
 | cons c bs ih=>exact ih _ (Zsc f hf s c h)
theorem Zpg (f:Nat→Nat) (s:Nat) (bs:List UInt8) (k:Nat) (h:k < bs.length):runN f s (bs.take (k+1))=nextN f (runN f s (bs.take k)) (bs.getD k 0):=by
 rw [List.take_succ_eq_append_getElem h]
 unfold runN
 rw [List.foldl_append]
 simp [h]
theorem Zty (f:Nat→Nat) (s:Nat) (bs:List UInt8):onN f s bs < 4294967296:=by unfold onN;omega
end Go.Proofs.YtkelafkbmnjpeaaGreat

namespace Go.Proofs.YtkelafkbmnjpeaaGreat

def sizeN (n:Int):Int:=if 1≤n∧n≤8192 then n+8 else 0
def headB (n:Nat):List UInt8:=[UInt8.ofNat (n / 256),UInt8.ofNat n,UInt8.ofNat (255 - n / 256 % 256),UInt8.ofNat (255 - n % 256)]
def lowB (s:Nat):List UInt8:=[UInt8.ofNat s,UInt8.ofNat (s / 256),UInt8.ofNat (s / 65536),UInt8.ofNat (s / 16777216)]
def tailB (bs:List UInt8):List UInt8:=lowB (onN tabN 0 bs)
def Z8 (b:List UInt8):List UInt8:=headB b.length++b++tailB (headB b.length++b)
def putB (b:List UInt8):List UInt8:=if 1≤b.length∧b.length≤8192 then Z8 b else []

theorem Zw (n:Nat):(headB n).length=4:=rfl
theorem Jh (b:List UInt8):(tailB b).length=4:=rfl
theorem Zl (b:List UInt8):(Z8 b).length=b.length+8:=by
 unfold Z8
 rw [List.length_append,List.length_append,Zw,Jh]
 omega
def toldN (b:List UInt8):Nat:=256*(b.getD 0 0).toNat+(b.getD 1 0).toNat
def Zi (b:List UInt8):List UInt8×Nat×Nat :=
 if b.length < 4 then ([],0,21)
 else if ¬ (1≤toldN b∧toldN b≤8192)∨b.take 4≠headB (toldN b) then ([],0,22)
 else if b.length < toldN b+8 then ([],0,21)
 else if (b.drop (toldN b+4)).take 4≠tailB (b.take (toldN b+4)) then ([],toldN b+8,22)
 else ((b.drop 4).take (toldN b),toldN b+8,0)
end Go.Proofs.YtkelafkbmnjpeaaGreat

namespace Go.Proofs.YtkelafkbmnjpeaaGreat

/-! What xor does to it. -/
end Go.Proofs.YtkelafkbmnjpeaaGreat

namespace Go.Proofs.YtkelafkbmnjpeaaGreat

end Go.Proofs.YtkelafkbmnjpeaaGreat

namespace Go.Proofs.YtkelafkbmnjpeaaGreat

theorem Ze3 (n:Nat) (h:n≤8192) (x:List UInt8):toldN (headB n++x)=n:=by
 unfold toldN headB
 simp only [List.cons_append,List.getD_cons_zero,List.getD_cons_succ,UInt8.toNat_ofNat']
 omega
theorem Zjg (n:Nat) (x:List UInt8):(headB n++x).take 4=headB n:=by
 rw [List.take_append_of_le_length (by rw [Zw];omega),List.take_of_length_le (by rw [Zw];omega)]

theorem Znf (b more:List UInt8) (h1:1≤b.length) (h2:b.length≤8192):Zi (Z8 b++more)=(b,b.length+8,0):=by
 have e:Z8 b++more=headB b.length++(b++(tailB (headB b.length++b)++more)):=by unfold Z8;simp [List.append_assoc]
 have hl:(Z8 b++more).length=b.length+8+more.length:=by rw [List.length_append,Zl]
 unfold Zi
 rw [if_neg (by omega)]
 have ht:toldN (Z8 b++more)=b.length:=by rw [e];exact Ze3 _ h2 _
 have hk:(Z8 b++more).take 4=headB b.length:=by rw [e];exact Zjg _ _
 rw [ht,hk,if_neg (fun h=>h.elim (fun h=>h ⟨h1,h2⟩) (fun h=>h rfl)),if_neg (by omega)]
 have hx:(Z8 b++more).take (b.length+4)=headB b.length++b:=by
  unfold Z8
  rw [List.append_assoc (headB b.length++b),List.take_append_of_le_length (by rw [List.length_append,Zw];omega),List.take_of_length_le (by rw [List.length_append,Zw];omega)]
 have hy:((Z8 b++more).drop (b.length+4)).take 4=tailB (headB b.length++b):=by
  unfold Z8
  rw [List.append_assoc (headB b.length++b),List.drop_left' (by rw [List.length_append,Zw];omega),List.take_left' (Jh _)]
 rw [hx,hy,if_neg (fun h=>h rfl)]
 have hz:((Z8 b++more).drop 4).take b.length=b:=by
  rw [e,List.drop_left' (Zw _),List.take_left' rfl]
 rw [hz]

theorem Zc1 {c y:List UInt8} {k:Nat} (h:Zi c=(y,k,0)):9≤k∧k≤c.length∧putB y=c.take k:=by
 unfold Zi at h
 by_cases h4:c.length < 4
 ·rw [if_pos h4] at h;simp at h
 rw [if_neg h4] at h
 by_cases hm:¬ (1≤toldN c∧toldN c≤8192)∨c.take 4≠headB (toldN c)
 ·rw [if_pos hm] at h;simp at h
 rw [if_neg hm] at h
 by_cases h8:c.length < toldN c+8
 ·rw [if_pos h8] at h;simp at h
 rw [if_neg h8] at h
 by_cases hx:(c.drop (toldN c+4)).take 4≠tailB (c.take (toldN c+4))
 ·rw [if_pos hx] at h;simp at h
 rw [if_neg hx] at h
 simp only [Prod.mk.injEq,and_true] at h
 obtain ⟨hy,hk⟩:=h
 have hr:1≤toldN c∧toldN c≤8192:=Decidable.not_not.1 fun h=>hm (.inl h)
 have hh:c.take 4=headB (toldN c):=Decidable.not_not.1 fun h=>hm (.inr h)
 have ht:(c.drop (toldN c+4)).take 4=tailB (c.take (toldN c+4)):=Decidable.not_not.1 hx
 generalize toldN c=T at *
 have hyl:y.length=T:=by rw [←hy,List.length_take,List.length_drop];omega
 refine ⟨by omega,by omega,?_⟩
 unfold putB
 rw [hyl,if_pos hr]
 unfold Z8
 have h1:c.take (T+4)=headB T++y:=by
  rw [←hy,←hh,←List.take_add,Nat.add_comm]
 rw [hyl,←h1,←ht,←hk,←List.take_add]

theorem Zpf {c y:List UInt8} {k e:Nat} (h:Zi c=(y,k,e)) (he:e≠0):y=[]∧(k=0∨e=22∧9≤k∧k≤c.length):=by
 unfold Zi at h
 by_cases h4:c.length < 4
 ·rw [if_pos h4] at h;simp at h;obtain ⟨rfl,rfl,rfl⟩:=h;simp
 rw [if_neg h4] at h
 by_cases hm:¬ (1≤toldN c∧toldN c≤8192)∨c.take 4≠headB (toldN c)
 ·rw [if_pos hm] at h;simp at h;obtain ⟨rfl,rfl,rfl⟩:=h;simp
 rw [if_neg hm] at h
 by_cases h8:c.length < toldN c+8
 ·rw [if_pos h8] at h;simp at h;obtain ⟨rfl,rfl,rfl⟩:=h;simp
 rw [if_neg h8] at h
 have hr:1≤toldN c∧toldN c≤8192:=Decidable.not_not.1 fun h=>hm (.inl h)
 by_cases hx:(c.drop (toldN c+4)).take 4≠tailB (c.take (toldN c+4))
 ·rw [if_pos hx] at h;simp at h;obtain ⟨rfl,rfl,rfl⟩:=h;refine ⟨rfl,.inr ⟨rfl,by omega,by omega⟩⟩
 ·rw [if_neg hx] at h;simp at h;exact absurd h.2.2.symm he

theorem Ze4 (b:List UInt8) (h1:1≤b.length) (h2:b.length≤8192) (j:Nat) (hj:j < b.length+8):Zi ((Z8 b).take j)=([],0,21):=by
 have hl:((Z8 b).take j).length=j:=by rw [List.length_take,Zl];omega
 unfold Zi
 by_cases h4:j < 4
 ·rw [if_pos (by omega)]
 rw [if_neg (by omega)]
 have e:(Z8 b).take j=headB b.length++((b++tailB (headB b.length++b)).take (j - 4)):=by
  unfold Z8
  rw [List.append_assoc,List.take_append,Zw,List.take_of_length_le (by rw [Zw];omega)]
 have ht:toldN ((Z8 b).take j)=b.length:=by rw [e];exact Ze3 _ h2 _
 have hk:((Z8 b).take j).take 4=headB b.length:=by rw [e];exact Zjg _ _
 rw [ht,hk,if_neg (fun h=>h.elim (fun h=>h ⟨h1,h2⟩) (fun h=>h rfl)),if_pos (by omega)]
end Go.Proofs.YtkelafkbmnjpeaaGreat

namespace Go.Proofs.YtkelafkbmnjpeaaGreat

end Go.Proofs.YtkelafkbmnjpeaaGreat

namespace Go.Proofs.YtkelafkbmnjpeaaGreat

theorem Yq {bs y:List UInt8} {k e:Nat} (h:Zi bs=(y,k,e)):(k=0∨9≤k∧k≤bs.length)∧(e=0→9≤k)∧(e≠0→y=[]):=by
 by_cases he:e=0
 ·subst he
  have:=Zc1 h
  exact ⟨.inr ⟨this.1,this.2.1⟩,fun _=>this.1,fun h=>absurd rfl h⟩
 ·have:=Zpf h he
  refine ⟨?_,fun h=>absurd h he,fun _=>this.1⟩
  rcases this.2 with h | h
  ·exact .inl h
  ·exact .inr h.2
theorem Zph (bs:List UInt8):(Zi bs).2.2=0∨(Zi bs).2.2=21∨(Zi bs).2.2=22:=by
 unfold Zi
 split
 ·exact .inr (.inl rfl)
 split
 ·exact .inr (.inr rfl)
 split
 ·exact .inr (.inl rfl)
 split
 ·exact .inr (.inr rfl)
 ·exact .inl rfl

abbrev Ev:=Nat×Nat×List UInt8×Nat
def evF:Nat→List UInt8→Nat→List Ev
 | 0,_,_=>[]
 | f+1,bs,at_=>if bs=[] then [] else (at_,(Zi bs).2.1,(Zi bs).1,(Zi bs).2.2) :: if (Zi bs).2.1=0 then [] else evF f (bs.drop (Zi bs).2.1) (at_+(Zi bs).2.1)
theorem evF_enough:∀ (N f:Nat) (bs:List UInt8) (a:Nat),bs.length≤N→bs.length≤f→evF f bs a=evF bs.length bs a
 | 0,f,bs,a,hN,_=>by
   have hb:bs=[]:=List.eq_nil_of_length_eq_zero (by omega)
   subst hb
   cases f <;> simp [evF]
 | N+1,f,bs,a,hN,hf=>by
   by_cases hb:bs=[]
   ·subst hb
    cases f <;> simp [evF]
   ·have hl:0 < bs.length:=List.length_pos_iff.2 hb
    obtain ⟨m,hm⟩:∃ m,bs.length=m+1:=⟨bs.length - 1,by omega⟩
    obtain ⟨g,rfl⟩:∃ g,f=g+1:=⟨f - 1,by omega⟩
    rw [hm]
    unfold evF
    rw [if_neg hb,if_neg hb]
    obtain ⟨hk,_⟩:=Yq (bs:=bs) (y:=(Zi bs).1) (k:=(Zi bs).2.1) (e:=(Zi bs).2.2) rfl
    generalize (Zi bs).2.1=k at *
    by_cases hk0:k=0
    ·rw [if_pos hk0,if_pos hk0]
    ·rw [if_neg hk0,if_neg hk0,evF_enough N g _ _ (by rw [List.length_drop];omega) (by rw [List.length_drop];omega),evF_enough N m _ _ (by rw [List.length_drop];omega) (by rw [List.length_drop];omega)]
def evB (bs:List UInt8) (a:Nat):List Ev:=evF bs.length bs a
theorem Zup (a:Nat):evB [] a=[]:=rfl
theorem Za2 {bs y:List UInt8} {k e:Nat} (hb:bs≠[]) (h:Zi bs=(y,k,e)) (a:Nat):evB bs a=(a,k,y,e) :: if k=0 then [] else evB (bs.drop k) (a+k):=by
 have hl:0 < bs.length:=List.length_pos_iff.2 hb
 obtain ⟨m,hm⟩:∃ m,bs.length=m+1:=⟨bs.length - 1,by omega⟩
 obtain ⟨hk,_⟩:=Yq h
 unfold evB
 rw [hm]
 conv=>lhs;unfold evF
 rw [if_neg hb,h]
 dsimp only
 by_cases hk0:k=0
 ·rw [if_pos hk0,if_pos hk0]
 ·rw [if_neg hk0,if_neg hk0,evF_enough m m _ _ (by rw [List.length_drop];omega) (by rw [List.length_drop];omega)]

def allE:List Ev→Nat→List (Nat×Nat×List UInt8)×Nat×Nat×Nat
 | [],a=>([],0,a,0)
 | (a,k,y,e) :: r,_=>if e=0 then ((a,k,y) :: (allE r (a+k)).1,(allE r (a+k)).2) else if k=0 then ([],0,a,e) else ((allE r (a+k)).1,(allE r (a+k)).2.1+1,(allE r (a+k)).2.2)
def allB (bs:List UInt8) (a:Nat):List (Nat×Nat×List UInt8)×Nat×Nat×Nat:=allE (evB bs a) a
def nextE:List Ev→Nat→(Nat×Nat×List UInt8)×Nat×Nat×Nat
 | [],a=>((0,0,[]),0,a,0)
 | (a,k,y,e) :: r,_=>if e=0 then ((a,k,y),0,a+k,0) else if k=0 then ((0,0,[]),0,a,e) else ((nextE r (a+k)).1,(nextE r (a+k)).2.1+1,(nextE r (a+k)).2.2)
def nextB (bs:List UInt8) (a:Nat):(Nat×Nat×List UInt8)×Nat×Nat×Nat:=nextE (evB bs a) a

section
variable {bs y:List UInt8} {k e:Nat}
theorem Zad (a:Nat):allB [] a=([],0,a,0):=rfl
theorem Zc2 (hb:bs≠[]) (h:Zi bs=(y,k,0)) (a:Nat):allB bs a=((a,k,y) :: (allB (bs.drop k) (a+k)).1,(allB (bs.drop k) (a+k)).2):=by
 have hk:=(Yq h).2.1 rfl
 unfold allB
 rw [Za2 hb h,allE,if_pos rfl,if_neg (by omega)]
theorem Zbs (hb:bs≠[]) (h:Zi bs=(y,0,e)) (he:e≠0) (a:Nat):allB bs a=([],0,a,e):=by
 unfold allB
 rw [Za2 hb h,allE,if_neg he,if_pos rfl]
theorem Zc3 (hb:bs≠[]) (h:Zi bs=(y,k,e)) (he:e≠0) (hk:k≠0) (a:Nat):allB bs a=((allB (bs.drop k) (a+k)).1,(allB (bs.drop k) (a+k)).2.1+1,(allB (bs.drop k) (a+k)).2.2):=by
 unfold allB
 rw [Za2 hb h,allE,if_neg he,if_neg hk,if_neg hk]
theorem Zpi (hb:bs≠[]) (h:Zi bs=(y,k,0)) (a:Nat):nextB bs a=((a,k,y),0,a+k,0):=by
 unfold nextB
 rw [Za2 hb h,nextE,if_pos rfl]
theorem Zng (hb:bs≠[]) (h:Zi bs=(y,0,e)) (he:e≠0) (a:Nat):nextB bs a=((0,0,[]),0,a,e):=by
 unfold nextB
 rw [Za2 hb h,nextE,if_neg he,if_pos rfl]
theorem Zpj (hb:bs≠[]) (h:Zi bs=(y,k,e)) (he:e≠0) (hk:k≠0) (a:Nat):nextB bs a=((nextB (bs.drop k) (a+k)).1,(nextB (bs.drop k) (a+k)).2.1+1,(nextB (bs.drop k) (a+k)).2.2):=by
 unfold nextB
 rw [Za2 hb h,nextE,if_neg he,if_neg hk,if_neg hk]
end

theorem all_next:∀ (N:Nat) (bs:List UInt8) (a:Nat),bs.length≤N →
 (((nextB bs a).1.2.1=0∧allB bs a=([],(nextB bs a).2)) ∨
  (9≤(nextB bs a).1.2.1∧(nextB bs a).2.2.2=0∧a+9≤(nextB bs a).2.2.1∧(nextB bs a).2.2.1≤a+bs.length ∧
    allB bs a=((nextB bs a).1 :: (allB (bs.drop ((nextB bs a).2.2.1 - a)) (nextB bs a).2.2.1).1,(nextB bs a).2.1+(allB (bs.drop ((nextB bs a).2.2.1 - a)) (nextB bs a).2.2.1).2.1,(allB (bs.drop ((nextB bs a).2.2.1 - a)) (nextB bs a).2.2.1).2.2)))
 | 0,bs,a,hN=>by
   have hb:bs=[]:=List.eq_nil_of_length_eq_zero (by omega)
   subst hb
   exact .inl ⟨rfl,rfl⟩
 | N+1,bs,a,hN=>by
   by_cases hb:bs=[]
   ·subst hb
    exact .inl ⟨rfl,rfl⟩
   obtain ⟨⟨y,k,e⟩,h⟩:∃ r,Zi bs=r:=⟨_,rfl⟩
   obtain ⟨hk,hk0,_⟩:=Yq h
   by_cases he:e=0
   ·subst he
    have hk0:=hk0 rfl
    rw [Zpi hb h,Zc2 hb h]
    refine .inr ⟨hk0,rfl,by dsimp only;omega,by dsimp only;omega,?_⟩
    dsimp only
    rw [Nat.add_sub_cancel_left,Nat.zero_add]
   ·by_cases hz:k=0
    ·subst hz
     rw [Zng hb h he,Zbs hb h he]
     exact .inl ⟨rfl,rfl⟩
    ·rw [Zpj hb h he hz,Zc3 hb h he hz]
     rcases all_next N (bs.drop k) (a+k) (by rw [List.length_drop];omega) with ⟨h1,h2⟩ | ⟨h1,h2,h3,h4,h5⟩
     ·refine .inl ⟨h1,?_⟩
      rw [h2]
     ·rw [List.length_drop] at h4
      refine .inr ⟨h1,h2,by dsimp only;omega,by dsimp only;omega,?_⟩
      rw [h5]
      dsimp only
      generalize (nextB (bs.drop k) (a+k)).2.2.1=q at *
      rw [List.drop_drop,show k+(q - (a+k))=q - a by omega,Nat.add_right_comm]

theorem all_end:∀ (N:Nat) (bs:List UInt8) (a:Nat),bs.length≤N→a≤(allB bs a).2.2.1∧(allB bs a).2.2.1≤a+bs.length∧(allB bs a).2.1≤bs.length∧9*(allB bs a).1.length≤bs.length∧∀ t∈(allB bs a).1,t.1≤a+bs.length∧t.2.1≤a+bs.length
 | 0,bs,a,hN=>by
   have hb:bs=[]:=List.eq_nil_of_length_eq_zero (by omega)
   subst hb
   simp [Zad]
 | N+1,bs,a,hN=>by
   by_cases hb:bs=[]
   ·subst hb
    simp [Zad]
   obtain ⟨⟨y,k,e⟩,h⟩:∃ r,Zi bs=r:=⟨_,rfl⟩
   obtain ⟨hk,hk0,_⟩:=Yq h
   by_cases he:e=0
   ·subst he
    have hk0:=hk0 rfl
    rw [Zc2 hb h]
    obtain ⟨h1,h2,h3,h4,h5⟩:=all_end N (bs.drop k) (a+k) (by rw [List.length_drop];omega)
    rw [List.length_drop] at h2 h3 h4 h5
    dsimp only
    refine ⟨by omega,by omega,by omega,by rw [List.length_cons];omega,fun t ht=>?_⟩
    rcases List.mem_cons.1 ht with rfl | ht
    ·dsimp only;omega
    ·have:=h5 t ht;omega
   ·by_cases hz:k=0
    ·subst hz
     rw [Zbs hb h he]
     simp
    ·rw [Zc3 hb h he hz]
     obtain ⟨h1,h2,h3,h4,h5⟩:=all_end N (bs.drop k) (a+k) (by rw [List.length_drop];omega)
     rw [List.length_drop] at h2 h3 h4 h5
     dsimp only
     refine ⟨by omega,by omega,by omega,by omega,fun t ht=>?_⟩
     have:=h5 t ht;omega

/-! What has come, from the beginning on. -/
def Goes (x:Ev):Prop:=x.2.2.2=0∨x.2.1≠0
def gotE (l:List Ev):List (Nat×Nat×List UInt8):=(l.filter fun x=>x.2.2.2==0).map fun x=>(x.1,x.2.1,x.2.2.1)
def badE (l:List Ev):Nat:=(l.filter fun x=>x.2.2.2 != 0).length
def endE (a:Nat):List Ev→Nat
 | []=>a
 | x :: l=>endE (x.1+x.2.1) l
theorem Ze5 (x:Ev):∀ (l:List Ev) (a:Nat),endE a (l++[x])=x.1+x.2.1
 | [],_=>rfl
 | _ :: l,_=>Ze5 x l _
theorem Zpk (l:List Ev) (x:Ev):gotE (l++[x])=gotE l++if x.2.2.2=0 then [(x.1,x.2.1,x.2.2.1)] else []:=by
 unfold gotE
 rw [List.filter_append,List.map_append]
 by_cases h:x.2.2.2=0 <;> simp [h]
theorem Zpl (l:List Ev) (x:Ev):badE (l++[x])=badE l+if x.2.2.2=0 then 0 else 1:=by
 unfold badE
 rw [List.filter_append,List.length_append]
 by_cases h:x.2.2.2=0 <;> simp [h]
theorem allE_run:∀ (l r:List Ev) (a:Nat),(∀ x∈l,Goes x)→allE (l++r) a=(gotE l++(allE r (endE a l)).1,badE l+(allE r (endE a l)).2.1,(allE r (endE a l)).2.2)
 | [],r,a,_=>by simp [gotE,badE,endE]
 | (b,k,y,e) :: l,r,a,h=>by
   have ih:=allE_run l r (b+k) fun x hx=>h x (List.mem_cons_of_mem _ hx)
   have h0:e=0∨k≠0:=h _ List.mem_cons_self
   rw [List.cons_append,allE,ih]
   by_cases he:e=0
   ·subst he
    simp [gotE,badE,endE]
   ·have hk:k≠0:=h0.resolve_left he
    rw [if_neg he,if_neg hk]
    simp [gotE,badE,endE,he,Nat.add_right_comm]
end Go.Proofs.YtkelafkbmnjpeaaGreat

namespace Go.Proofs.YtkelafkbmnjpeaaGreat

def Good (b:List UInt8):Prop:=1≤b.length∧b.length≤8192
instance (b:List UInt8):Decidable (Good b):=inferInstanceAs (Decidable (_∧_))
def putL:List (List UInt8)→List UInt8
 | []=>[]
 | b :: r=>putB b++putL r
def itsL:List (List UInt8)→Nat→List (Nat×Nat×List UInt8)
 | [],_=>[]
 | b :: r,a=>if Good b then (a,b.length+8,b) :: itsL r (a+(b.length+8)) else itsL r a
theorem Ye {b:List UInt8} (h:Good b):putB b=Z8 b:=by unfold putB;exact if_pos h
theorem Zeb {b:List UInt8} (h:¬ Good b):putB b=[]:=by unfold putB;exact if_neg h
theorem putL_append:∀ (l r:List (List UInt8)),putL (l++r)=putL l++putL r
 | [],_=>rfl
 | b :: l,r=>by rw [List.cons_append,putL,putL,putL_append l r,List.append_assoc]
theorem itsL_sizes:∀ (l:List (List UInt8)) (a:Nat) (t:Nat×Nat×List UInt8),t∈itsL l a→a≤t.1∧t.1+t.2.1≤a+(putL l).length∧9≤t.2.1
 | [],_,_,h=>by cases h
 | b :: l,a,t,h=>by
   rw [itsL] at h
   by_cases hb:Good b
   ·rw [if_pos hb] at h
    rw [putL,List.length_append,Ye hb,Zl]
    have hg:1≤b.length:=hb.1
    rcases List.mem_cons.1 h with rfl | h
    ·dsimp only;omega
    ·have:=itsL_sizes l _ t h;omega
   ·rw [if_neg hb] at h
    rw [putL,Zeb hb]
    exact itsL_sizes l a t h
theorem itsL_count:∀ (l:List (List UInt8)) (a:Nat),9*(itsL l a).length≤(putL l).length
 | [],_=>by simp [itsL,putL]
 | b :: l,a=>by
   rw [itsL,putL,List.length_append]
   by_cases hb:Good b
   ·rw [if_pos hb,Ye hb,Zl,List.length_cons]
    have:=itsL_count l (a+(b.length+8))
    have hg:1≤b.length:=hb.1
    omega
   ·rw [if_neg hb]
    have:=itsL_count l a
    omega
end Go.Proofs.YtkelafkbmnjpeaaGreat

namespace Go.Proofs.YtkelafkbmnjpeaaGreat

structure Mn where
  segs : List Int
  next : Int
  deriving DecidableEq
def Mn.none : Mn := ⟨[], 0⟩
def upTo : Int → List Int → Option Int
  | a, [] => some a
  | a, n :: r => if n ≤ a then Option.none else upTo n r
theorem upTo_snoc : ∀ (l : List Int) (a n : Int), upTo a (l ++ [n]) = match upTo a l with
    | some z => if n ≤ z then Option.none else some n
    | Option.none => Option.none
  | [], a, n => by simp only [List.nil_append, upTo]
  | x :: l, a, n => by
    rw [List.cons_append, upTo, upTo]
    by_cases h : x ≤ a
    · rw [if_pos h, if_pos h]
    · rw [if_neg h, if_neg h, upTo_snoc l x n]
theorem upTo_append_none : ∀ (l r : List Int) (a : Int), upTo a l = Option.none → upTo a (l ++ r) = Option.none
  | [], _, _, h => by cases h
  | x :: l, r, a, h => by
    rw [List.cons_append, upTo]
    rw [upTo] at h
    by_cases hx : x ≤ a
    · rw [if_pos hx]
    · rw [if_neg hx] at h ⊢
      exact upTo_append_none l r x h
def Ya (m : Mn) : Bool := decide (m.segs.length ≤ 1000) && (match upTo (-1) m.segs with
  | some z => decide (z < m.next ∧ m.next ≤ 99999999)
  | Option.none => false)
theorem Zdo {m : Mn} (h : Ya m = true) : m.segs.length ≤ 1000 := by
  unfold Ya at h
  rw [Bool.and_eq_true, decide_eq_true_eq] at h
  exact h.1
def numsB : List Int → List UInt8
  | [] => []
  | n :: l => numB n 4 ++ numsB l
theorem numsB_length : ∀ l, (numsB l).length = 4 * l.length
  | [] => rfl
  | n :: l => by rw [numsB, List.length_append, Z1, numsB_length l, List.length_cons]; omega
theorem numsB_append : ∀ a b, numsB (a ++ b) = numsB a ++ numsB b
  | [], _ => rfl
  | n :: a, b => by rw [List.cons_append, numsB, numsB, numsB_append a b, List.append_assoc]
theorem Znd (a : List Int) (n : Int) : numsB (a ++ [n]) = numsB a ++ numB n 4 := by rw [numsB_append, numsB, numsB, List.append_nil]
def headM (m : Mn) : List UInt8 := 8 :: (numB m.next 4 ++ numB m.segs.length 2)
def bodyM (m : Mn) : List UInt8 := headM m ++ numsB m.segs
theorem Zje (m : Mn) : (headM m).length = 7 := by unfold headM; simp [Z1]
theorem Zd2 (m : Mn) : (bodyM m).length = 7 + 4 * m.segs.length := by unfold bodyM; rw [List.length_append, Zje, numsB_length]
def putM (m : Mn) : List UInt8 := if Ya m = true then putB (bodyM m) else []
theorem Zgr {m : Mn} (h : Ya m = true) : Good (bodyM m) := by
  have := Zdo h
  have := Zd2 m
  unfold Good
  omega
theorem Zgs {m : Mn} (h : Ya m = true) : putM m = Z8 (bodyM m) := by unfold putM; rw [if_pos h, Ye (Zgr h)]
theorem Zkr {m : Mn} (h : Ya m = true) : (putM m).length = 15 + 4 * m.segs.length := by rw [Zgs h, Zl, Zd2]; omega
theorem Zl6 {m : Mn} (h : Ya m = false) : putM m = [] := by unfold putM; rw [h]; rfl
theorem Zgt (m : Mn) : (putM m).length ≤ 4015 := by
  cases h : Ya m with
  | false => rw [Zl6 h]; simp
  | true => rw [Zkr h]; have := Zdo h; omega
def foursL : List UInt8 → List Int
  | a :: b :: c :: d :: r => valB [a, b, c, d] :: foursL r
  | _ => []
def toldM (b : List UInt8) : Option Mn :=
  if b.length < 7 ∨ b.getD 0 0 ≠ 8 then Option.none
  else if ((b.length - 7 : Nat) : Int) ≠ valB ((b.drop 5).take 2) * 4 then Option.none
  else some ⟨foursL (b.drop 7), valB ((b.drop 1).take 4)⟩
def getM (b : List UInt8) : Option Mn :=
  if (Zi b).2.2 = 0 ∧ (Zi b).2.1 = b.length then
    match toldM (Zi b).1 with
    | some m => if Ya m = true then some m else Option.none
    | Option.none => Option.none
  else Option.none
end Go.Proofs.YtkelafkbmnjpeaaGreat

namespace Go.Proofs.YtkelafkbmnjpeaaGreat
open Go.RowKit

theorem Zsd {m:Dk} (hd:m.down=false) (hc:m.cut≠0) (hf:m.fail≠0) (does:Dk→Dk):m.thing does=((does m.sooner).bump,0):=by
 unfold Dk.thing
 rw [if_neg (by rw [hd];decide),if_neg hc,if_neg hf]
 rfl
theorem Zse {m:Dk} (hd:m.down=false) (hc:m.cut≠0) (hf:m.fail=0) (does:Dk→Dk):m.thing does=({ m.sooner with fail:=-1 },81):=by
 unfold Dk.thing
 rw [if_neg (by rw [hd];decide),if_neg hc,if_pos hf]
structure LS (m:Dk) (dw:Bool) (c f:Int) (n z:Nat) (k:Dir) (p:List Ch) (dn:Int):Prop where
 down:m.down=dw
 cut:m.cut=c
 fail:m.fail=f
 names:m.names=[([97],0)]
 kept:m.kept=k
 pend:m.pend=p
 most:m.most=1048576
 used:m.used=n
 len:(m.files 0).bytes.length=n
 kp:(m.files 0).kept=z
 done:m.done=dn
section
variable {m:Dk} {c f:Int} {n z:Nat} {k:Dir} {p:List Ch} {dn:Int} {dw:Bool}
end
end Go.Proofs.YtkelafkbmnjpeaaGreat

namespace Go.Proofs.YtkelafkbmnjpeaaGreat
open Go.RowKit

def nmM:Nm:=[109]
def nmT:Nm:=[116]
def leftP (m:Dk):Dk×Int:=if (m.size nmT).2=true then m.remove nmT else (m,0)
def seqP:List (Dk→Dk×Int)→Dk→Dk×Int
 | [],m=>(m,0)
 | s :: r,m=>if (s m).2=0 then seqP r (s m).1 else s m
def Yj (b:List UInt8):List (Dk→Dk×Int):=[leftP,fun m=>m.create nmT,fun m=>m.append nmT b,fun m=>m.sync nmT,fun m=>m.rename nmT nmM,Dk.syncDir]
def saveP (m:Dk) (x:Mn):Dk×Int:=if Ya x=true then seqP (Yj (putM x)) m else (m,1)
def loadP (m:Dk):Mn×Bool×Int :=
 if (m.read nmM 0 (m.size nmM).1).2=3 then (Mn.none,false,0)
 else if (m.read nmM 0 (m.size nmM).1).2=0 then
  match getM ((m.read nmM 0 (m.size nmM).1).1.getD []) with
  | some x=>(x,true,0)
  | none=>(Mn.none,false,22)
 else (Mn.none,false,(m.read nmM 0 (m.size nmM).1).2)
theorem DkOk.left {K:Nat} {m:Dk} (h:DkOk K m):DkOk (K+1) (leftP m).1:=by
 unfold leftP
 split
 ·exact h.remove _
 ·exact h.mono (by omega)
structure Like (m m':Dk):Prop where
 names:m'.names=m.names
 kept:m'.kept=m.kept
 pend:m'.pend=m.pend
 files:m'.files=m.files
 made:m'.made=m.made
 used:m'.used=m.used
 most:m'.most=m.most
def dirO:Option (Nat×Mn)→Dir
 | none=>[]
 | some p=>[(nmM,p.1)]
def lenO:Option (Nat×Mn)→Int
 | none=>0
 | some p=>(putM p.2).length
structure SG (wl:Bool) (m:Dk) (o:Option (Nat×Mn)) (F:Nat) (nm:Dir) (pd:List Ch) (us:Int):Prop where
 well:wl=true→Well m
 names:m.names=nm
 kept:m.kept=dirO o
 pend:m.pend=pd
 most:1048576≤m.most
 used:m.used=us
 olds:∀ p,o=some p→p.1 < F∧m.files p.1=⟨putM p.2,(putM p.2).length⟩∧Ya p.2=true
section
variable {wl:Bool} {m:Dk} {o:Option (Nat×Mn)} {F:Nat} {us:Int} {b:List UInt8}
end

structure SS (wl:Bool) (m:Dk) (o:Option (Nat×Mn)):Prop where
 sg:SG wl m o m.made (dirO o) [] (lenO o)
 down:m.down=false
end Go.Proofs.YtkelafkbmnjpeaaGreat

namespace Go.Proofs.YtkelafkbmnjpeaaGreat
open Go.RowKit
section
variable {α:Type}
theorem Yz {enc:α→List Value} {k:Nat} (hk:∀ a,(enc a).length=k):∀ l:List α,(l.flatMap enc).length=l.length*k
 | []=>by simp
 | a :: l=>by
   rw [List.flatMap_cons,List.length_append,hk,Yz hk l,List.length_cons,Nat.add_mul]
   omega
theorem Zec {enc:α→List Value} {k:Nat} (hk:∀ a,(enc a).length=k):∀ (l:List α) (i j:Nat) (a:α),l[i]?=some a→j < k→(l.flatMap enc)[i*k+j]?=(enc a)[j]?
 | a :: l,0,j,_,h,hj=>by
   simp only [List.getElem?_cons_zero,Option.some.injEq] at h
   subst h
   rw [List.flatMap_cons,Nat.zero_mul,Nat.zero_add,List.getElem?_append_left (by rw [hk];exact hj)]
 | a :: l,i+1,j,b,h,hj=>by
   rw [List.flatMap_cons,List.getElem?_append_right (by rw [hk,Nat.add_mul];omega),hk,show (i+1)*k+j - k=i*k+j by rw [Nat.add_mul];omega]
   exact Zec hk l i j b (by simpa using h) hj
 | [],i,j,_,h,_=>by simp at h
structure Rw (w:World) (A:Option Addr) (n:Nat) (enc:α→List Value) (k:Nat) (l:List α):Prop where
 len:l.length=n
 spot:∀ (i:Nat) (a:α),l[i]?=some a→∃ g,A=some ⟨g,0,none⟩∧g < w.heap.size∧∀ j,j < k→w.cell? ⟨g,i*k+j,none⟩=(enc a)[j]?
theorem Rw.owned {w:World} {e:TypeId} {A:Option Addr} {n c k:Nat} {enc:α→List Value} {l:List α} (hk:∀ a,(enc a).length=k) (hl:l.length=n) (h:w.ownsRow 0 e k (.slice A n c) n (l.flatMap enc)):Rw w A n enc k l:=by
 refine ⟨hl,fun i a hi=>?_⟩
 have hil:i < l.length:=(List.getElem?_eq_some_iff.1 hi).1
 obtain ⟨g,cap,hv,_,hlt⟩:=h.form (by omega)
 injection hv with hA _ _
 subst hA
 refine ⟨g,rfl,hlt,fun j hj=>?_⟩
 have h1:=Zec hk l i j a hi hj
 have h2:j < (enc a).length:=by rw [hk];exact hj
 rw [List.getElem?_eq_getElem h2] at h1 ⊢
 have h3:=h.cells (g:=g) rfl _ _ h1
 rw [show (⟨g,0,none⟩:Addr).add (i*k+j)=⟨g,i*k+j,none⟩ by unfold Addr.add;split <;> simp_all] at h3
 exact h3
end
end Go.Proofs.YtkelafkbmnjpeaaGreat

set_option maxHeartbeats 4000000
set_option maxRecDepth 100000
namespace Go.Proofs.YtkelafkbmnjpeaaGreat
open Go.RowKit

structure Low (w:World) (g:Nat) (A:Option Addr) (n c:Nat) (bs:List UInt8):Prop where
 bytes:Bytes w g A n bs
 cap:n≤c
 bare:A=none→c=0
theorem Low.sl {w:World} {g:Nat} {A:Option Addr} {n c:Nat} {bs:List UInt8} (h:Low w g A n c bs) (hg:g≤w.heap.size):Sl w A n c bs:=⟨h.bytes.wider hg,h.cap,h.bare⟩
theorem Low.carry {w w':World} {g:Nat} {A:Option Addr} {n c:Nat} {bs:List UInt8} (h:Low w g A n c bs) (hb:Below g w w'):Low w' g A n c bs:=⟨h.bytes.below hb,h.cap,h.bare⟩
def At (w:World) (g:Nat) (s:Src):Prop:=∃ A n c,Whole w g 251 #[.slice A n c,.bool s.2]∧Low w g A n c s.1
def Turns (g:Nat) (w w':World):Prop:=w.grownBy w' (some g)

theorem Turns.trans {g:Nat} {a b c:World} (h:Turns g a b) (k:Turns g b c):Turns g a c:=World.grownBy.trans h k
theorem Turns.below {g:Nat} {w w':World} (h:Turns g w w') (hg:g≤w.heap.size):Below g w w':=(Below.refl _ w).grown h hg (fun k hk=>by injection hk with hk;omega)

theorem Turns.set {g:Nat} {w:World} (i:Nat) (u:Value):Turns g w (w.setCell ⟨g,i,none⟩ u) :=
 ⟨rfl,rfl,rfl,by simp,fun k _ hne=>heap_setCell_other w _ k u (fun e=>hne (by rw [e]))⟩
theorem Turns.grow {g:Nat} {w w':World} (h:Grows w w'):Turns g w w':=⟨h.os,h.tape,h.output,h.size,fun k hk _=>h.block k hk⟩
theorem Low.nil (w:World) (g:Nat):Low w g none 0 0 []:=⟨Bytes.nil _ _ _,Nat.le_refl _,fun _=>rfl⟩
theorem Low.first {w:World} {g:Nat} {A:Option Addr} {n c:Nat} {bs:List UInt8} (h:Low w g A n c bs) {k:Nat} (hk:k≤n):Low w g A k c (bs.take k):=⟨h.bytes.first hk,Nat.le_trans hk h.cap,h.bare⟩
theorem Low.behind {w:World} {g:Nat} {A:Option Addr} {n c:Nat} {bs:List UInt8} (h:Low w g A n c bs) {k:Nat} (hk:k≤n):Low w g (if c=k then A else A.map (·.add k)) (n - k) (c - k) (bs.drop k):=by
 refine ⟨?_,by have:=h.cap;omega,fun e=>?_⟩
 ·have h2:=Row.behind (k:=k) (cap:=c) h.bytes hk h.cap
  unfold Bytes
  rw [List.map_drop]
  exact h2
 ·split at e
  ·omega
  ·have:A=none:=by simpa using e
   have:=h.bare this
   omega
theorem Zdp {w:World} {g:Nat} {A:Option Addr} {n c:Nat} {bs:List UInt8} (h:Low w g A n c bs) (i:Nat) (u:Value):Low (w.setCell ⟨g,i,none⟩ u) g A n c bs:=h.carry (Below.setCell (p:=⟨g,i,none⟩) (Below.refl g w) (Nat.le_refl g) u)

theorem Zhz (g:Nat) (s:Src) (n:Nat) (w:World) (h:At w g s) (hn:n≤9223372036854775807) (hs:s.1.length≤140737488351232) :
 Calls Tryz.prog 309 #[.pointer (some ⟨g,0,none⟩),.int .i64 (n:Int)] w fun e w'=>∃ A m c,e=.returned (.slice A m c)∧Low w' g A m c (takeS s n).1∧At w' g (takeS s n).2∧Turns g w w':=by
 obtain ⟨A,m,c,hw,hl⟩:=h
 obtain ⟨bs,short⟩:=s
 have c0:=hw.cell 0
 have c1:=hw.cell 1
 have f0:=hw.free 0
 have f1:=hw.free 1
 simp only [Gt] at c0 c1
 have hlen:=Bytes.len hl.bytes
 dsimp only at hlen hl hs c1
 have hcap:=hl.cap
 have HL:=Lib.hid hl
 have HW:=Lib.hid hw
 clear hw hl
 cases short with
 | true =>
   go_enter Tryz.func309,Tryz.ntmps309
   go_wp2_with (fail)
   go_ret
   exact ⟨none,0,0,rfl,Low.nil _ _,⟨A,m,c,HW.out.put 1 (.bool true),Zdp HL.out _ _⟩,Turns.set _ _⟩
 | false =>
   by_cases hlt:m < n
   ·have h1:(m:Int) < (n:Int):=by omega
    go_enter Tryz.func309,Tryz.ntmps309
    go_wp2_with (fail)
    go_ret
    have ht:takeS (bs,false) (n:Int)=([],(bs,true)):=by
     unfold takeS
     rw [if_pos (.inr (by dsimp only;omega))]
    rw [ht]
    exact ⟨none,0,0,rfl,Low.nil _ _,⟨A,m,c,HW.out.put 1 (.bool true),Zdp HL.out _ _⟩,Turns.set _ _⟩
   ·have h1:¬ (m:Int) < (n:Int):=by omega
    have ht:takeS (bs,false) (n:Int)=(bs.take n,(bs.drop n,false)):=by
     unfold takeS
     rw [if_neg (by dsimp only;rintro (h | h) <;> first | cases h | omega),Int.toNat_natCast]
    rw [ht]
    have hbh:=HL.out.behind (k:=n) (by omega)
    have hfi:=HL.out.first (k:=n) (by omega)
    have HF:=Lib.hid hfi
    clear hfi ht
    by_cases hc:c=n
    ·rw [if_pos hc] at hbh
     obtain rfl:c=n:=hc
     rw [Nat.sub_self,show m - c=0 by omega] at hbh
     have HB:=Lib.hid hbh
     clear hbh
     go_enter Tryz.func309,Tryz.ntmps309
     go_wp2_with (fail)
     go_ret
     exact ⟨A,c,c,rfl,Zdp HF.out _ _,⟨_,_,_,HW.out.put 0 _,Zdp HB.out _ _⟩,Turns.set _ _⟩
    ·rw [if_neg hc] at hbh
     have HB:=Lib.hid hbh
     have hc':¬ (c:Int)=(n:Int):=by omega
     clear hbh
     go_enter Tryz.func309,Tryz.ntmps309
     go_wp2_with (fail)
     go_ret
     exact ⟨A,n,c,rfl,Zdp HF.out _ _,⟨_,_,_,HW.out.put 0 _,Zdp HB.out _ _⟩,Turns.set _ _⟩
end Go.Proofs.YtkelafkbmnjpeaaGreat
