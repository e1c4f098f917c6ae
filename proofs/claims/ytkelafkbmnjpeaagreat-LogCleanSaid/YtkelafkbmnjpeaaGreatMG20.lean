/-
  Texts that the statements lean on, one behind the other.
-/
import Derived.Lib.Bytealg
import Derived.Lib.SlicesCompact
import Derived.Sort.Walk0
import Derived.Test.YtkelafkbmnjpeaaGreatMG01
import Derived.LoopTactic
import Derived.IntWalk
import Derived.OwnWalk
import Derived.WalkLawsBesides
import Derived.Lib.Hide
import Derived.Lib.LazyBuf
import Derived.Test.YtkelafkbmnjpeaaGreatMG10
import Derived.Laws.Rows
set_option linter.unusedVariables false
namespace Go.Proofs.YtkelafkbmnjpeaaGreat

def digs (n:Nat):Nat→List UInt8
 | 0=>[]
 | i+1=>UInt8.ofNat (48+n / 10 ^ i % 10) :: digs n i
theorem Yb (n:Nat):∀ i,(digs n i).length=i
 | 0=>rfl
 | i+1=>by simp [digs,Yb n i]

def ofP (k n:Int):List UInt8 :=
 if n < 0∨n > 99999999 then [] else if k=1 then 115 :: digs n.toNat 8 else if k=2 then 104 :: digs n.toNat 8 else if k=3∧n=0 then [109] else if k=4∧n=0 then [116] else []

def isDig (c:UInt8):Bool:=decide (48≤c.toNat∧c.toNat≤57)
def val (acc:Nat) (r:List UInt8):Nat:=r.foldl (fun a c=>10*a+(c.toNat - 48)) acc
theorem Zlb (acc:Nat):val acc []=acc:=rfl
theorem Za8 (acc:Nat) (c:UInt8) (r:List UInt8):val acc (c :: r)=val (10*acc+(c.toNat - 48)) r:=by simp only [val,List.foldl_cons]
def parseP:List UInt8→Option (Int×Int)
 | []=>none
 | c :: r=>if r.length=8∧r.all isDig=true then (if c=115 then some (1,(val 0 r:Nat)) else if c=104 then some (2,(val 0 r:Nat)) else none)
   else if r=[] then (if c=109 then some (3,0) else if c=116 then some (4,0) else none) else none
theorem Zau (c:UInt8) (r:List UInt8):parseP (c :: r)=if r.length=8∧r.all isDig=true then (if c=115 then some (1,((val 0 r:Nat):Int)) else if c=104 then some (2,((val 0 r:Nat):Int)) else none)
 else if r=[] then (if c=109 then some (3,0) else if c=116 then some (4,0) else none) else none:=rfl
def trip:Option (Int×Int)→Int×Int×Bool
 | none=>(0,0,false)
 | some (k,n)=>(k,n,true)

theorem Zd2 (x:Nat) (h:x < 10):(UInt8.ofNat (48+x)).toNat=48+x:=by
 simp [UInt8.toNat_ofNat']
 omega
theorem Zv9 (x:Nat) (h:x < 10):isDig (UInt8.ofNat (48+x))=true:=by
 unfold isDig
 rw [Zd2 x h]
 exact decide_eq_true (by omega)
theorem Zin (n:Nat):∀ i,(digs n i).all isDig=true
 | 0=>rfl
 | i+1=>by
   rw [digs,List.all_cons,Zin n i,Zv9 _ (Nat.mod_lt _ (by omega))]
   rfl
theorem Ztg (n i:Nat):10 ^ i*(n / 10 ^ i % 10)+n % 10 ^ i=n % 10 ^ (i+1):=by
 rw [Nat.pow_succ,Nat.mod_mul,Nat.add_comm]
theorem Zmq (n:Nat):∀ (i acc:Nat),val acc (digs n i)=acc*10 ^ i+n % 10 ^ i
 | 0,acc=>by rw [digs,Zlb];omega
 | i+1,acc=>by
   have h:n / 10 ^ i % 10 < 10:=Nat.mod_lt _ (by omega)
   rw [digs,Za8,Zmq n i,Zd2 _ h,←Ztg n i,show 48+n / 10 ^ i % 10 - 48=n / 10 ^ i % 10 by omega,Nat.add_mul,Nat.pow_succ]
   have e1:10*acc*10 ^ i=acc*(10 ^ i*10):=by rw [Nat.mul_comm 10 acc,Nat.mul_assoc,Nat.mul_comm 10 (10 ^ i)]
   have e2:n / 10 ^ i % 10*10 ^ i=10 ^ i*(n / 10 ^ i % 10):=Nat.mul_comm _ _
   omega
theorem val_lt:∀ (r:List UInt8) (acc:Nat),r.all isDig=true→val acc r < (acc+1)*10 ^ r.length
 | [],acc,_=>by rw [Zlb];simp
 | c :: r,acc,h=>by
   rw [List.all_cons,Bool.and_eq_true] at h
   have hc:=of_decide_eq_true h.1
   have:=val_lt r (10*acc+(c.toNat - 48)) h.2
   rw [Za8,List.length_cons,Nat.pow_succ]
   have e:(acc+1)*(10 ^ r.length*10)=(10*acc+10)*10 ^ r.length:=by
    rw [Nat.mul_comm (10 ^ r.length) 10,←Nat.mul_assoc,Nat.add_mul,Nat.mul_comm acc 10,Nat.one_mul]
   have e2:(10*acc+(c.toNat - 48)+1)*10 ^ r.length≤(10*acc+10)*10 ^ r.length:=Nat.mul_le_mul_right _ (by omega)
   omega
theorem digs_val:∀ (r:List UInt8) (acc:Nat),r.all isDig=true→digs (val acc r) r.length=r
 | [],_,_=>rfl
 | c :: r,acc,h=>by
   rw [List.all_cons,Bool.and_eq_true] at h
   have hc:=of_decide_eq_true h.1
   have hm:∀ (x y:List UInt8) (a:Nat),val a (x++y)=val (val a x) y:=by
    intro x
    induction x with
    | nil=>intro y a;rfl
    | cons u x ih=>intro y a;rw [List.cons_append,Za8,Za8,ih y]
   have key:∀ (x:List UInt8) (a:Nat),x.all isDig=true→val a x / 10 ^ x.length=a:=by
    intro x
    induction x with
    | nil=>intro a _;rw [Zlb];simp
    | cons u x ih =>
      intro a hx
      rw [List.all_cons,Bool.and_eq_true] at hx
      have hu:=of_decide_eq_true hx.1
      rw [Za8,List.length_cons,Nat.pow_succ,←Nat.div_div_eq_div_mul,ih _ hx.2]
      omega
   rw [Za8,List.length_cons,digs,digs_val r _ h.2,key r _ h.2]
   congr 1
   apply UInt8.toNat_inj.1
   rw [Zd2 _ (Nat.mod_lt _ (by omega))]
   omega

theorem Zqp (k n:Int) (h:ofP k n≠[]):0≤n∧n≤99999999:=by
 unfold ofP at h
 split at h
 ·exact absurd rfl h
 ·omega
theorem Jd (k n:Int) (h:ofP k n≠[]):parseP (ofP k n)=some (k,n):=by
 have hn:=Zqp k n h
 have hv:((val 0 (digs n.toNat 8):Nat):Int)=n:=by
  rw [Zmq]
  omega
 unfold ofP at *
 rw [if_neg (by omega)] at *
 split at h
 ·rename_i hk
  subst hk
  rw [if_pos rfl,Zau,if_pos ⟨Yb _ _,Zin _ _⟩,if_pos rfl,hv]
 ·rename_i hk1
  rw [if_neg hk1]
  split at h
  ·rename_i hk
   subst hk
   rw [if_pos rfl,Zau,if_pos ⟨Yb _ _,Zin _ _⟩,if_neg (by decide),if_pos rfl,hv]
  ·rename_i hk2
   rw [if_neg hk2]
   split at h
   ·rename_i hk
    rw [if_pos hk,hk.1,hk.2]
    decide
   ·rename_i hk3
    rw [if_neg hk3]
    split at h
    ·rename_i hk
     rw [if_pos hk,hk.1,hk.2]
     decide
    ·exact absurd rfl h
theorem Zdi (s:List UInt8) (k n:Int) (h:parseP s=some (k,n)):ofP k n=s:=by
 match s with
 | []=>simp [parseP] at h
 | c :: r =>
   rw [Zau] at h
   split at h
   ·rename_i hr
    have hl:=val_lt r 0 hr.2
    rw [hr.1] at hl
    have hd:=digs_val r 0 hr.2
    rw [hr.1] at hd
    split at h
    ·rename_i hc
     injection h with h
     injection h with h1 h2
     subst h1 h2 hc
     unfold ofP
     rw [if_neg (by omega),if_pos rfl,Int.toNat_natCast,hd]
    ·split at h
     ·rename_i hc
      injection h with h
      injection h with h1 h2
      subst h1 h2 hc
      unfold ofP
      rw [if_neg (by omega),if_neg (by decide),if_pos rfl,Int.toNat_natCast,hd]
     ·cases h
   ·split at h
    ·rename_i hr
     subst hr
     split at h
     ·rename_i hc
      injection h with h
      injection h with h1 h2
      subst h1 h2 hc
      rfl
     ·split at h
      ·rename_i hc
       injection h with h
       injection h with h1 h2
       subst h1 h2 hc
       rfl
      ·cases h
    ·cases h
theorem Zci (s:List UInt8) (k n:Int) (h:parseP s=some (k,n)):1≤k∧k≤4∧0≤n∧n≤99999999∧(2 < k→n=0)∧s≠[]:=by
 have h2:=Zdi s k n h
 have hs:s≠[]:=fun e=>by rw [e] at h;simp [parseP] at h
 have hn:=Zqp k n (by rw [h2];exact hs)
 unfold ofP at h2
 rw [if_neg (by omega)] at h2
 refine ⟨?_,?_,hn.1,hn.2,?_,hs⟩
 all_goals
  split at h2
  ·omega
  ·split at h2
   ·omega
   ·split at h2
    ·omega
    ·split at h2
     ·omega
     ·exact absurd h2.symm hs

def rnum (acc:Int) (r:List UInt8):Int:=r.foldl (fun a c=>10*a+Int.tmod ((c.toNat:Int) - 48) 10) acc
theorem Zio (acc:Int):rnum acc []=acc:=rfl
theorem Zb1 (acc:Int) (c:UInt8) (r:List UInt8):rnum acc (c :: r)=rnum (10*acc+Int.tmod ((c.toNat:Int) - 48) 10) r:=by simp only [rnum,List.foldl_cons]
theorem rnum_val:∀ (r:List UInt8) (acc:Nat),r.all isDig=true→rnum acc r=(val acc r:Nat)
 | [],_,_=>rfl
 | c :: r,acc,h=>by
   rw [List.all_cons,Bool.and_eq_true] at h
   have hc:=of_decide_eq_true h.1
   rw [Zb1,Za8,←rnum_val r _ h.2]
   congr 1
   rw [Int.tmod_eq_emod_of_nonneg (by omega)]
   omega
theorem rnum_append:∀ (x:List UInt8) (c:UInt8) (acc:Int),rnum acc (x++[c])=10*rnum acc x+Int.tmod ((c.toNat:Int) - 48) 10
 | [],c,acc=>by rw [List.nil_append,Zb1,Zio,Zio]
 | u :: x,c,acc=>by rw [List.cons_append,Zb1,Zb1,rnum_append x c]
theorem rnum_bound:∀ (r:List UInt8) (acc:Int),-(10 ^ r.length)*(acc.natAbs+1) < rnum acc r∧rnum acc r < 10 ^ r.length*(acc.natAbs+1)
 | [],acc=>by rw [Zio];simp;omega
 | c :: r,acc=>by
   have:=rnum_bound r (10*acc+Int.tmod ((c.toNat:Int) - 48) 10)
   have hb:(10*acc+Int.tmod ((c.toNat:Int) - 48) 10).natAbs+1≤10*(acc.natAbs+1):=by
    have h1:Int.tmod ((c.toNat:Int) - 48) 10 < 10:=Int.tmod_lt_of_pos _ (by omega)
    have h2:-10 < Int.tmod ((c.toNat:Int) - 48) 10:=by
     have:=Int.tmod_lt_of_pos (-((c.toNat:Int) - 48)) (show (0:Int) < 10 by omega)
     rw [Int.neg_tmod] at this
     omega
    omega
   rw [Zb1,List.length_cons]
   have hp:(0:Int) < 10 ^ r.length:=Int.pow_pos (by omega)
   have e:(10:Int) ^ (r.length+1)*((acc.natAbs:Nat)+1:Int)=10 ^ r.length*(10*((acc.natAbs:Nat)+1:Int)):=by
    rw [Int.pow_succ,Int.mul_assoc]
   have hle:(10:Int) ^ r.length*(((10*acc+Int.tmod ((c.toNat:Int) - 48) 10).natAbs:Nat)+1:Int)≤10 ^ r.length*(10*((acc.natAbs:Nat)+1:Int)):=Int.mul_le_mul_of_nonneg_left (by omega) (by omega)
   rw [Int.neg_mul] at *
   omega

theorem Zez (s:List UInt8) (k:Int) (m:Int) (hs:s≠[]) (h:ofP k m=s):parseP s=some (k,m):=by
 subst h
 exact Jd k m hs
theorem Zqq (s:List UInt8) (k n:Int) (h:parseP s=some (k,n)) (hk:k≤2):rnum 0 ((s.drop 1).take 8)=n:=by
 match s with
 | []=>simp [parseP] at h
 | c :: r =>
   have h0:=h
   rw [Zau] at h
   split at h
   ·rename_i hr
    have e:((c :: r).drop 1).take 8=r:=by
     rw [List.drop_one,List.tail_cons,List.take_of_length_le (by omega)]
    rw [e,show (0:Int)=((0:Nat):Int) from rfl,rnum_val r 0 hr.2]
    split at h
    ·injection h with h
     injection h
    ·split at h
     ·injection h with h
      injection h
     ·cases h
   ·split at h
    ·split at h
     ·injection h with h
      injection h
      omega
     ·split at h
      ·injection h with h
       injection h
       omega
      ·cases h
    ·cases h
end Go.Proofs.YtkelafkbmnjpeaaGreat

set_option maxHeartbeats 4000000
set_option maxRecDepth 100000
namespace Go.Proofs.YtkelafkbmnjpeaaGreat
open Go.Lib (hid)
open Go.RowKit

def Jp (k:Int):Int×Int:=if k=1∨k=2 then (8,99999999) else if k=3∨k=4 then (0,0) else (0,-1)
theorem Yt (k:Int) (w:World):Calls Tryz.prog 126 #[.int .i64 k] w fun e w'=>e=.returned (.tuple #[.int .i64 (Jp k).1,.int .i64 (Jp k).2])∧w=w':=by
 by_cases h1:k=1
 ·subst h1
  go_enter Tryz.func126,Tryz.ntmps126
  go_wp2_with (fail)
  go_ret2
  exact ⟨rfl,rfl⟩
 by_cases h2:k=2
 ·subst h2
  go_enter Tryz.func126,Tryz.ntmps126
  go_wp2_with (fail)
  go_ret2
  exact ⟨rfl,rfl⟩
 by_cases h3:k=3
 ·subst h3
  go_enter Tryz.func126,Tryz.ntmps126
  go_wp2_with (fail)
  go_ret2
  exact ⟨rfl,rfl⟩
 by_cases h4:k=4
 ·subst h4
  go_enter Tryz.func126,Tryz.ntmps126
  go_wp2_with (fail)
  go_ret2
  exact ⟨rfl,rfl⟩
 go_enter Tryz.func126,Tryz.ntmps126
 go_wp2_with (fail)
 go_ret2
 have e:Jp k=(0,-1):=by unfold Jp;rw [if_neg (by omega),if_neg (by omega)]
 rw [e]
 exact ⟨rfl,rfl⟩

def nameV (c:UInt8) (n i:Nat):Array Value:=((c :: List.replicate (8 - i) 0++digs n i).map byteV).toArray
theorem Zhg (c:UInt8) (n i:Nat) (h:i≤8):(nameV c n i).size=9:=by
 simp [nameV,Yb]
 omega
theorem Zvk (m:Nat) (x:UInt8) (r:List UInt8):∀ c:UInt8,(c :: List.replicate (m+1) 0++r).set (m+1) x=c :: List.replicate m 0++x :: r:=by
 induction m with
 | zero=>intro c;rfl
 | succ m ih =>
   intro c
   have:=ih 0
   rw [List.replicate_succ,List.cons_append,List.set_cons_succ]
   rw [this]
   simp [List.replicate_succ]
theorem Zhh (c:UInt8) (n i:Nat) (h:i < 8):(nameV c n i).setIfInBounds (8 - i) (.int .u8 ((UInt8.ofNat (48+n / 10 ^ i % 10)).toNat:Int))=nameV c n (i+1):=by
 obtain ⟨m,hm⟩:∃ m,8 - i=m+1:=⟨8 - i - 1,by omega⟩
 unfold nameV
 rw [hm,show 8 - (i+1)=m by omega,digs,←Zvk m _ (digs n i) c,List.map_set,List.setIfInBounds_toArray]
 rfl


theorem Zvl (n:Nat) (hn:n≤99999999) (w:World) :
 Calls Tryz.prog 73 #[.int .i64 1,.int .i64 (n:Int)] w fun e w'=>e=.returned (.string ⟨(115 :: digs n 8:List UInt8).toArray⟩)∧Grows w w':=by
 have hmk:∀ w,(Instr.makeSlice 37 (.int .i64 9) (.int .i64 9)).run Tryz.prog w=.ok (.slice (some ⟨w.heap.size,0,none⟩) 9 9) (w.alloc (.cells #[.int .u8 0,.int .u8 0,.int .u8 0,.int .u8 0,.int .u8 0,.int .u8 0,.int .u8 0,.int .u8 0,.int .u8 0] 5)):=fun _=>by kernel_rfl
 have hw0:=Whole.made w 5 #[.int .u8 0,.int .u8 0,.int .u8 0,.int .u8 0,.int .u8 0,.int .u8 0,.int .u8 0,.int .u8 0,.int .u8 0]
 have hg0:=Grows.refl w |>.alloc (Nat.le_refl _) (.cells #[.int .u8 0,.int .u8 0,.int .u8 0,.int .u8 0,.int .u8 0,.int .u8 0,.int .u8 0,.int .u8 0,.int .u8 0] 5)
 obtain ⟨w0,he0⟩:∃ w0,w.alloc (.cells #[.int .u8 0,.int .u8 0,.int .u8 0,.int .u8 0,.int .u8 0,.int .u8 0,.int .u8 0,.int .u8 0,.int .u8 0] 5)=w0:=⟨_,rfl⟩
 have hlt0:w.heap.size < w0.heap.size:=by rw [←he0];simp
 have hmk1:=hmk w
 rw [he0] at hmk1 hw0 hg0
 have hcp:(Builtin.copy_ #[37,9] 3 #[.slice (some ⟨w.heap.size,0,none⟩) 9 9,.string ((⟨#[115,104,109,116]⟩:ByteArray).extract 0 1)]).run Tryz.prog w0=.ok (goInt 1) (w0.setCell ⟨w.heap.size,0,none⟩ (.int .u8 115)):=by
  rw [show (⟨#[115,104,109,116]⟩:ByteArray).extract 0 1=⟨#[115]⟩ by rfl]
  refine (run_copy_string (P:=Tryz.prog) w0 37 9 3 5 w.heap.size 0 9 9 ⟨#[115]⟩ Tryz.underlying37 (fun _=>by kernel_rfl) (by decide) (fun j hj=>?_) (fun j hj=>?_)).trans rfl
  ·have hj0:j=0:=Nat.lt_one_iff.1 hj
   subst hj0
   have:=hw0.cell 0
   simp only [List.getElem?_toArray,List.getElem?_cons_zero] at this
   rw [Nat.zero_add,this]
   rfl
  ·exact hw0.free _
 have hw1:=hw0.put 0 (.int .u8 115)
 have hg1:Grows w (w0.setCell ⟨w.heap.size,0,none⟩ (.int .u8 115)):=Below.setCell (p:=⟨w.heap.size,0,none⟩) hg0 (Nat.le_refl _) _
 obtain ⟨w1,he1⟩:∃ w1,w0.setCell ⟨w.heap.size,0,none⟩ (.int .u8 115)=w1:=⟨_,rfl⟩
 rw [he1] at hcp hw1 hg1
 have hw2:Whole w1 w.heap.size 5 (nameV 115 n 0):=hw1
 have HW:=hid hw2
 have HG:=hid hg1
 have hnn:¬ (99999999:Int) < (n:Int):=by omega
 have hn0:¬ (n:Int) < 0:=by omega
 clear hmk hw0 hg0 hw1 hg1 hw2 hlt0
 go_enter Tryz.func73,Tryz.ntmps73
 go_wp2_with (first | (go_at_call 126;refine (Yt 1 _).mono ?_;rintro e w' ⟨rfl,rfl⟩;rw [show Jp 1=(8,99999999) from rfl]) | fail)
 go_loopw [1,31] (fun a i wr=>∃ (j:Nat),j≤8∧i=.int .i64 (j:Int)∧a=.int .i64 ((n / 10 ^ j:Nat):Int)∧Hid (Whole wr w.heap.size 5 (nameV 115 n j))∧Hid (Grows w wr)) (fun _ i _=>8 - (intOf i).toNat)
 case atStart=>exact ⟨0,by omega,rfl,by simp,HW,HG⟩
 case round =>
  obtain ⟨j,hj,rfl,rfl,HR,HB⟩:=hrel
  by_cases hlt:j < 8
  ·have hlt':(j:Int) < 8:=by omega
   obtain ⟨q,hq⟩:∃ q:Nat,8 - j=q:=⟨_,rfl⟩
   obtain ⟨X,hX⟩:∃ X:Nat,n / 10 ^ j=X:=⟨_,rfl⟩
   have hX2:n / 10 ^ (j+1)=X / 10:=by rw [Nat.pow_succ,←Nat.div_div_eq_div_mul,hX]
   have hXl:X≤99999999:=by rw [←hX];exact Nat.le_trans (Nat.div_le_self _ _) hn
   have hq1:IntKind.i64.wrap (8 - (j:Int))=(q:Int):=by rw [IntWalk.i64_in _ ⟨by omega,by omega⟩];omega
   have hq2:wrap64 (8 - (j:Int))=(q:Int):=by rw [←IntWalk.i64_left];exact hq1
   have hq9:q < 9:=by omega
   have hcell:=HR.out.cell q
   have hset:=Zhh 115 n j hlt
   rw [hX,hq] at hset
   obtain ⟨old,hold⟩:∃ old,(nameV 115 n j)[q]?=some old:=⟨_,Array.getElem?_eq_getElem (by rw [Zhg 115 n j hj];exact hq9)⟩
   rw [hold] at hcell
   have hfree:=HR.out.free q
   have hput:=HR.out.put q (.int .u8 ((UInt8.ofNat (48+X % 10)).toNat:Int))
   rw [hset] at hput
   have HP:=hid hput
   have hd:((UInt8.ofNat (48+X % 10)).toNat:Int)=48+(X:Int) % 10:=by
    rw [Zd2 _ (Nat.mod_lt _ (by omega))]
    omega
   rw [hd] at HP
   have hm1:IntKind.i64.wrap ((X:Int).tmod 10)=(X:Int) % 10:=by rw [Int.tmod_eq_emod_of_nonneg (by omega),IntWalk.i64_in _ ⟨by omega,by omega⟩]
   have HX:=hid hX
   have HX2:=hid hX2
   have HQ:=hid hq
   rw [hX]
   clear hset hput hd hold hX hX2 hq
   go_wp2_with (fail)
   refine ⟨⟨j+1,by omega,rfl,?_,hid HP.out,hid (Below.setCell (p:=⟨w.heap.size,q,none⟩) HB.out (Nat.le_refl _) _)⟩,by simp [intOf];omega⟩
   rw [HX2.out]
   rfl
  ·obtain rfl:j=8:=by omega
   have hs:=Z5 (HR.out.sl (115 :: digs n 8) (by unfold nameV;rfl) (n:=9) (by rw [List.length_cons,Yb]))
   have HS:=hid hs
   go_wp2_with (fail)
   go_ret
   exact ⟨rfl,HB.out⟩

theorem Zvm (n:Nat) (hn:n≤99999999) (w:World) :
 Calls Tryz.prog 73 #[.int .i64 2,.int .i64 (n:Int)] w fun e w'=>e=.returned (.string ⟨(104 :: digs n 8:List UInt8).toArray⟩)∧Grows w w':=by
 have hmk:∀ w,(Instr.makeSlice 37 (.int .i64 9) (.int .i64 9)).run Tryz.prog w=.ok (.slice (some ⟨w.heap.size,0,none⟩) 9 9) (w.alloc (.cells #[.int .u8 0,.int .u8 0,.int .u8 0,.int .u8 0,.int .u8 0,.int .u8 0,.int .u8 0,.int .u8 0,.int .u8 0] 5)):=fun _=>by kernel_rfl
 have hw0:=Whole.made w 5 #[.int .u8 0,.int .u8 0,.int .u8 0,.int .u8 0,.int .u8 0,.int .u8 0,.int .u8 0,.int .u8 0,.int .u8 0]
 have hg0:=Grows.refl w |>.alloc (Nat.le_refl _) (.cells #[.int .u8 0,.int .u8 0,.int .u8 0,.int .u8 0,.int .u8 0,.int .u8 0,.int .u8 0,.int .u8 0,.int .u8 0] 5)
 obtain ⟨w0,he0⟩:∃ w0,w.alloc (.cells #[.int .u8 0,.int .u8 0,.int .u8 0,.int .u8 0,.int .u8 0,.int .u8 0,.int .u8 0,.int .u8 0,.int .u8 0] 5)=w0:=⟨_,rfl⟩
 have hlt0:w.heap.size < w0.heap.size:=by rw [←he0];simp
 have hmk1:=hmk w
 rw [he0] at hmk1 hw0 hg0
 have hcp:(Builtin.copy_ #[37,9] 3 #[.slice (some ⟨w.heap.size,0,none⟩) 9 9,.string ((⟨#[115,104,109,116]⟩:ByteArray).extract 1 2)]).run Tryz.prog w0=.ok (goInt 1) (w0.setCell ⟨w.heap.size,0,none⟩ (.int .u8 104)):=by
  rw [show (⟨#[115,104,109,116]⟩:ByteArray).extract 1 2=⟨#[104]⟩ by rfl]
  refine (run_copy_string (P:=Tryz.prog) w0 37 9 3 5 w.heap.size 0 9 9 ⟨#[104]⟩ Tryz.underlying37 (fun _=>by kernel_rfl) (by decide) (fun j hj=>?_) (fun j hj=>?_)).trans rfl
  ·have hj0:j=0:=Nat.lt_one_iff.1 hj
   subst hj0
   have:=hw0.cell 0
   simp only [List.getElem?_toArray,List.getElem?_cons_zero] at this
   rw [Nat.zero_add,this]
   rfl
  ·exact hw0.free _
 have hw1:=hw0.put 0 (.int .u8 104)
 have hg1:Grows w (w0.setCell ⟨w.heap.size,0,none⟩ (.int .u8 104)):=Below.setCell (p:=⟨w.heap.size,0,none⟩) hg0 (Nat.le_refl _) _
 obtain ⟨w1,he1⟩:∃ w1,w0.setCell ⟨w.heap.size,0,none⟩ (.int .u8 104)=w1:=⟨_,rfl⟩
 rw [he1] at hcp hw1 hg1
 have hw2:Whole w1 w.heap.size 5 (nameV 104 n 0):=hw1
 have HW:=hid hw2
 have HG:=hid hg1
 have hnn:¬ (99999999:Int) < (n:Int):=by omega
 have hn0:¬ (n:Int) < 0:=by omega
 clear hmk hw0 hg0 hw1 hg1 hw2 hlt0
 go_enter Tryz.func73,Tryz.ntmps73
 go_wp2_with (first | (go_at_call 126;refine (Yt 2 _).mono ?_;rintro e w' ⟨rfl,rfl⟩;rw [show Jp 2=(8,99999999) from rfl]) | fail)
 go_loopw [1,31] (fun a i wr=>∃ (j:Nat),j≤8∧i=.int .i64 (j:Int)∧a=.int .i64 ((n / 10 ^ j:Nat):Int)∧Hid (Whole wr w.heap.size 5 (nameV 104 n j))∧Hid (Grows w wr)) (fun _ i _=>8 - (intOf i).toNat)
 case atStart=>exact ⟨0,by omega,rfl,by simp,HW,HG⟩
 case round =>
  obtain ⟨j,hj,rfl,rfl,HR,HB⟩:=hrel
  by_cases hlt:j < 8
  ·have hlt':(j:Int) < 8:=by omega
   obtain ⟨q,hq⟩:∃ q:Nat,8 - j=q:=⟨_,rfl⟩
   obtain ⟨X,hX⟩:∃ X:Nat,n / 10 ^ j=X:=⟨_,rfl⟩
   have hX2:n / 10 ^ (j+1)=X / 10:=by rw [Nat.pow_succ,←Nat.div_div_eq_div_mul,hX]
   have hXl:X≤99999999:=by rw [←hX];exact Nat.le_trans (Nat.div_le_self _ _) hn
   have hq1:IntKind.i64.wrap (8 - (j:Int))=(q:Int):=by rw [IntWalk.i64_in _ ⟨by omega,by omega⟩];omega
   have hq2:wrap64 (8 - (j:Int))=(q:Int):=by rw [←IntWalk.i64_left];exact hq1
   have hq9:q < 9:=by omega
   have hcell:=HR.out.cell q
   have hset:=Zhh 104 n j hlt
   rw [hX,hq] at hset
   obtain ⟨old,hold⟩:∃ old,(nameV 104 n j)[q]?=some old:=⟨_,Array.getElem?_eq_getElem (by rw [Zhg 104 n j hj];exact hq9)⟩
   rw [hold] at hcell
   have hfree:=HR.out.free q
   have hput:=HR.out.put q (.int .u8 ((UInt8.ofNat (48+X % 10)).toNat:Int))
   rw [hset] at hput
   have HP:=hid hput
   have hd:((UInt8.ofNat (48+X % 10)).toNat:Int)=48+(X:Int) % 10:=by
    rw [Zd2 _ (Nat.mod_lt _ (by omega))]
    omega
   rw [hd] at HP
   have hm1:IntKind.i64.wrap ((X:Int).tmod 10)=(X:Int) % 10:=by rw [Int.tmod_eq_emod_of_nonneg (by omega),IntWalk.i64_in _ ⟨by omega,by omega⟩]
   have HX:=hid hX
   have HX2:=hid hX2
   have HQ:=hid hq
   rw [hX]
   clear hset hput hd hold hX hX2 hq
   go_wp2_with (fail)
   refine ⟨⟨j+1,by omega,rfl,?_,hid HP.out,hid (Below.setCell (p:=⟨w.heap.size,q,none⟩) HB.out (Nat.le_refl _) _)⟩,by simp [intOf];omega⟩
   rw [HX2.out]
   rfl
  ·obtain rfl:j=8:=by omega
   have hs:=Z5 (HR.out.sl (104 :: digs n 8) (by unfold nameV;rfl) (n:=9) (by rw [List.length_cons,Yb]))
   have HS:=hid hs
   go_wp2_with (fail)
   go_ret
   exact ⟨rfl,HB.out⟩

theorem Zla (w:World) :
 Calls Tryz.prog 73 #[.int .i64 3,.int .i64 0] w fun e w'=>e=.returned (.string ⟨([109]:List UInt8).toArray⟩)∧Grows w w':=by
 have hmk:∀ w,(Instr.makeSlice 37 (.int .i64 1) (.int .i64 1)).run Tryz.prog w=.ok (.slice (some ⟨w.heap.size,0,none⟩) 1 1) (w.alloc (.cells #[.int .u8 0] 5)):=fun _=>by kernel_rfl
 have hw0:=Whole.made w 5 #[.int .u8 0]
 have hg0:=Grows.refl w |>.alloc (Nat.le_refl _) (.cells #[.int .u8 0] 5)
 obtain ⟨w0,he0⟩:∃ w0,w.alloc (.cells #[.int .u8 0] 5)=w0:=⟨_,rfl⟩
 have hmk1:=hmk w
 rw [he0] at hmk1 hw0 hg0
 have hcp:(Builtin.copy_ #[37,9] 3 #[.slice (some ⟨w.heap.size,0,none⟩) 1 1,.string ((⟨#[115,104,109,116]⟩:ByteArray).extract 2 3)]).run Tryz.prog w0=.ok (goInt 1) (w0.setCell ⟨w.heap.size,0,none⟩ (.int .u8 109)):=by
  rw [show (⟨#[115,104,109,116]⟩:ByteArray).extract 2 3=⟨#[109]⟩ by rfl]
  refine (run_copy_string (P:=Tryz.prog) w0 37 9 3 5 w.heap.size 0 1 1 ⟨#[109]⟩ Tryz.underlying37 (fun _=>by kernel_rfl) (by decide) (fun j hj=>?_) (fun j hj=>?_)).trans rfl
  ·have hj0:j=0:=Nat.lt_one_iff.1 hj
   subst hj0
   have:=hw0.cell 0
   simp only [List.getElem?_toArray,List.getElem?_cons_zero] at this
   rw [Nat.zero_add,this]
   rfl
  ·exact hw0.free _
 have hw1:=hw0.put 0 (.int .u8 109)
 have hg1:Grows w (w0.setCell ⟨w.heap.size,0,none⟩ (.int .u8 109)):=Below.setCell (p:=⟨w.heap.size,0,none⟩) hg0 (Nat.le_refl _) _
 obtain ⟨w1,he1⟩:∃ w1,w0.setCell ⟨w.heap.size,0,none⟩ (.int .u8 109)=w1:=⟨_,rfl⟩
 rw [he1] at hcp hw1 hg1
 have hs:=Z5 (hw1.sl [109] rfl (n:=1) rfl)
 have HG:=hid hg1
 clear hmk hw0 hg0 hw1 hg1
 go_enter Tryz.func73,Tryz.ntmps73
 go_wp2_with (first | (go_at_call 126;refine (Yt 3 _).mono ?_;rintro e w' ⟨rfl,rfl⟩;rw [show Jp 3=(0,0) from rfl]) | fail)
 go_loopw [31] (fun i wr=>i=.int .i64 0∧wr=w1) (fun _ _=>0)
 case atStart=>exact ⟨rfl,rfl⟩
 case round =>
  obtain ⟨rfl,rfl⟩:=hrel
  go_wp2_with (fail)
  go_ret
  exact ⟨rfl,HG.out⟩

theorem Zqo (w:World) :
 Calls Tryz.prog 73 #[.int .i64 4,.int .i64 0] w fun e w'=>e=.returned (.string ⟨([116]:List UInt8).toArray⟩)∧Grows w w':=by
 have hmk:∀ w,(Instr.makeSlice 37 (.int .i64 1) (.int .i64 1)).run Tryz.prog w=.ok (.slice (some ⟨w.heap.size,0,none⟩) 1 1) (w.alloc (.cells #[.int .u8 0] 5)):=fun _=>by kernel_rfl
 have hw0:=Whole.made w 5 #[.int .u8 0]
 have hg0:=Grows.refl w |>.alloc (Nat.le_refl _) (.cells #[.int .u8 0] 5)
 obtain ⟨w0,he0⟩:∃ w0,w.alloc (.cells #[.int .u8 0] 5)=w0:=⟨_,rfl⟩
 have hmk1:=hmk w
 rw [he0] at hmk1 hw0 hg0
 have hcp:(Builtin.copy_ #[37,9] 3 #[.slice (some ⟨w.heap.size,0,none⟩) 1 1,.string ((⟨#[115,104,109,116]⟩:ByteArray).extract 3 4)]).run Tryz.prog w0=.ok (goInt 1) (w0.setCell ⟨w.heap.size,0,none⟩ (.int .u8 116)):=by
  rw [show (⟨#[115,104,109,116]⟩:ByteArray).extract 3 4=⟨#[116]⟩ by rfl]
  refine (run_copy_string (P:=Tryz.prog) w0 37 9 3 5 w.heap.size 0 1 1 ⟨#[116]⟩ Tryz.underlying37 (fun _=>by kernel_rfl) (by decide) (fun j hj=>?_) (fun j hj=>?_)).trans rfl
  ·have hj0:j=0:=Nat.lt_one_iff.1 hj
   subst hj0
   have:=hw0.cell 0
   simp only [List.getElem?_toArray,List.getElem?_cons_zero] at this
   rw [Nat.zero_add,this]
   rfl
  ·exact hw0.free _
 have hw1:=hw0.put 0 (.int .u8 116)
 have hg1:Grows w (w0.setCell ⟨w.heap.size,0,none⟩ (.int .u8 116)):=Below.setCell (p:=⟨w.heap.size,0,none⟩) hg0 (Nat.le_refl _) _
 obtain ⟨w1,he1⟩:∃ w1,w0.setCell ⟨w.heap.size,0,none⟩ (.int .u8 116)=w1:=⟨_,rfl⟩
 rw [he1] at hcp hw1 hg1
 have hs:=Z5 (hw1.sl [116] rfl (n:=1) rfl)
 have HG:=hid hg1
 clear hmk hw0 hg0 hw1 hg1
 go_enter Tryz.func73,Tryz.ntmps73
 go_wp2_with (first | (go_at_call 126;refine (Yt 4 _).mono ?_;rintro e w' ⟨rfl,rfl⟩;rw [show Jp 4=(0,0) from rfl]) | fail)
 go_loopw [31] (fun i wr=>i=.int .i64 0∧wr=w1) (fun _ _=>0)
 case atStart=>exact ⟨rfl,rfl⟩
 case round =>
  obtain ⟨rfl,rfl⟩:=hrel
  go_wp2_with (fail)
  go_ret
  exact ⟨rfl,HG.out⟩

theorem Zhi (k n:Int) (w:World) :
 Calls Tryz.prog 73 #[.int .i64 k,.int .i64 n] w fun e w'=>e=.returned (.string ⟨(ofP k n).toArray⟩)∧Grows w w':=by
 have key:∀ m:Int,(Jp k).2=m→(n < 0∨m < n)→Calls Tryz.prog 73 #[.int .i64 k,.int .i64 n] w fun e w'=>e=.returned (.string ⟨([]:List UInt8).toArray⟩)∧Grows w w':=fun m hm hn=>by
  by_cases h0:n < 0
  ·go_enter Tryz.func73,Tryz.ntmps73
   go_wp2_with (first | (go_at_call 126;refine (Yt k _).mono ?_;rintro e w' ⟨rfl,rfl⟩) | fail)
   go_ret
   exact ⟨rfl,Grows.refl _⟩
  ·have h1:m < n:=by omega
   go_enter Tryz.func73,Tryz.ntmps73
   go_wp2_with (first | (go_at_call 126;refine (Yt k _).mono ?_;rintro e w' ⟨rfl,rfl⟩;rw [hm]) | fail)
   go_ret
   exact ⟨rfl,Grows.refl _⟩
 by_cases hn:n < 0∨n > 99999999
 ·have e:ofP k n=[]:=by unfold ofP;rw [if_pos hn]
  rw [e]
  refine key _ rfl ?_
  rcases hn with h | h
  ·exact .inl h
  ·right
   unfold Jp
   repeat' split
   all_goals omega
 ·obtain ⟨m,rfl⟩:∃ m:Nat,n=(m:Int):=⟨n.toNat,by omega⟩
  by_cases h1:k=1
  ·subst h1
   have e:ofP 1 (m:Int)=115 :: digs m 8:=by unfold ofP;rw [if_neg hn,if_pos rfl,Int.toNat_natCast]
   rw [e]
   exact Zvl m (by omega) w
  ·by_cases h2:k=2
   ·subst h2
    have e:ofP 2 (m:Int)=104 :: digs m 8:=by unfold ofP;rw [if_neg hn,if_neg (by decide),if_pos rfl,Int.toNat_natCast]
    rw [e]
    exact Zvm m (by omega) w
   ·by_cases h3:k=3∧(m:Int)=0
    ·obtain ⟨rfl,hm⟩:=h3
     rw [hm]
     exact Zla w
    ·by_cases h4:k=4∧(m:Int)=0
     ·obtain ⟨rfl,hm⟩:=h4
      rw [hm]
      exact Zqo w
     ·have e:ofP k (m:Int)=[]:=by unfold ofP;rw [if_neg hn,if_neg h1,if_neg h2,if_neg h3,if_neg h4]
      rw [e]
      refine key _ rfl (.inr ?_)
      unfold Jp
      rw [if_neg (by omega)]
      split <;> simp only <;> omega
end Go.Proofs.YtkelafkbmnjpeaaGreat

set_option maxHeartbeats 4000000
set_option maxRecDepth 100000
namespace Go.Proofs.YtkelafkbmnjpeaaGreat
open Go.Lib (hid)
open Go.RowKit

def nmS (n:Int):Nm:=ofP 1 n
def segV (d:Nat) (n:Int):Array Value:=#[.pointer (some ⟨d,0,none⟩),.int .i64 n,.string ⟨(nmS n).toArray⟩]
def Zz (n:Int):List UInt8:=9 :: numB n 4
theorem Yk (n:Int):(Zz n).length=5:=by unfold Zz;rw [List.length_cons,Zw]

theorem Zb0 (w:World) (d:Nat) (n:Int) :
 Calls Tryz.prog 128 #[.pointer (some ⟨d,0,none⟩),.int .i64 n] w fun e w'=>e=.returned (.agg (segV d n))∧Grows w w':=by
 unfold segV nmS
 have HO:=hid (fun w'=>Zhi 1 n w')
 obtain ⟨s,hs⟩:∃ s:ByteArray,(⟨(ofP 1 n).toArray⟩:ByteArray)=s:=⟨_,rfl⟩
 rw [hs] at HO ⊢
 clear hs
 go_enter Tryz.func128,Tryz.ntmps128
 go_wp2_with (fail)
 refine (HO.out _).mono ?_
 rintro e w1 ⟨rfl,hg⟩
 have hm:=Grows.whole hg (Whole.made w 176 #[.pointer none,.int .i64 0,.string ⟨#[]⟩])
 have HG:=hid (Grows.trans (Za w _) hg)
 have c0:=hm.cell 0
 have f0:=hm.free 0
 have c1:=hm.cell 1
 have f1:=hm.free 1
 have c2:=hm.cell 2
 have f2:=hm.free 2
 simp only [Gt] at c0 c1 c2
 have HM:=hid hm
 clear hm hg
 go_wp2_with (fail)
 have hp:=((HM.out.put 0 (.pointer (some ⟨d,0,none⟩))).put 1 (.int .i64 n)).put 2 (.string s)
 simp only [List.setIfInBounds_toArray,List.set_cons_zero,List.set_cons_succ] at hp
 refine bodyPost_ret (results_cell_row rfl _ _ w.heap.size _ _ (0,0) _ rfl hp Tryz.underlying176 rfl (by kernel_rfl)) rfl ?_
 refine ⟨rfl,?_⟩
 exact ((HG.out.setCell (Nat.le_refl _) _).setCell (Nat.le_refl _) _).setCell (Nat.le_refl _) _
theorem Yx (n:Int):(nmS n).length≤16:=by
 unfold nmS ofP
 repeat' split
 all_goals simp [Yb]
theorem Zgq (n:Int):(#[.int .u8 9,.int .u8 (n / 16777216 % 256),.int .u8 (n / 65536 % 256),.int .u8 (n / 256 % 256),.int .u8 (n % 256)]:Array Value)=((Zz n).map byteV).toArray:=by
 have h3:=Yw (n / 256 ^ 3)
 have h2:=Yw (n / 256 ^ 2)
 have h1:=Yw (n / 256 ^ 1)
 have h0:=Yw (n / 256 ^ 0)
 unfold Zz numB numB numB numB numB
 simp only [List.map_cons,List.map_nil,byteV]
 rw [h3,h2,h1,h0]
 have e3:n / 256 ^ 3 % 256=n / 16777216 % 256:=by rw [show (256:Int) ^ 3=16777216 by decide]
 have e2:n / 256 ^ 2 % 256=n / 65536 % 256:=by rw [show (256:Int) ^ 2=65536 by decide]
 have e1:n / 256 ^ 1 % 256=n / 256 % 256:=by rw [show (256:Int) ^ 1=256 by decide]
 have e0:n / 256 ^ 0 % 256=n % 256:=by rw [show (256:Int) ^ 0=1 by decide,Int.ediv_one]
 rw [e3,e2,e1,e0]
 rfl
section
variable {B d K:Nat} {w0 w:World} {out:Nat→Prop} {m:Dk}
theorem Zcv (w:World) (n:Int) (h:DkIn B w0 w d out m) {v:Int} {b:Bool} (hv:m.size (nmS n)=(v,b)) :
 Calls Tryz.prog 145 #[.agg (segV d n)] w fun e w'=>e=.returned (.int .i64 v)∧Grows w w':=by
 have hm:=Whole.made w 176 (segV d n)
 have HS:=hid (Zh8 (nmS n) (h.grow (Za w (.cells (segV d n) 176))) (by have:=Yx n;omega) hv)
 unfold segV at hm HS ⊢
 obtain ⟨s,hs⟩:∃ s:ByteArray,(⟨(nmS n).toArray⟩:ByteArray)=s:=⟨_,rfl⟩
 rw [hs] at HS hm ⊢
 have c0:=hm.cell 0
 have c2:=hm.cell 2
 simp only [Gt] at c0 c2
 clear h hv hs hm
 go_enter Tryz.func145,Tryz.ntmps145
 go_wp2_with (fail)
 refine HS.out.mono ?_
 rintro e w1 ⟨rfl,rfl⟩
 go_wp2_with (fail)
 go_ret
 exact ⟨rfl,Za _ _⟩
theorem Za7 (w:World) (n:Int) (h:DkIn B w0 w d out m) {v:Int} {b:Bool} (hv:m.size (nmS n)=(v,b)) :
 Calls Tryz.prog 95 #[.pointer (some ⟨d,0,none⟩),.int .i64 n] w fun e w'=>e=.returned (.int .i64 v)∧Grows w w':=by
 have HO:=hid (Zb0 w d n)
 have HS:=hid (fun w' (hg:Grows w w')=>Zcv w' n (h.grow hg) hv)
 obtain ⟨sv,hs⟩:∃ sv:Array Value,segV d n=sv:=⟨_,rfl⟩
 rw [hs] at HO HS
 clear h hv hs
 go_enter Tryz.func95,Tryz.ntmps95
 go_wp2_with (fail)
 refine HO.out.mono ?_
 rintro e w1 ⟨rfl,hg⟩
 have HG:=hid hg
 clear hg
 go_wp2_with (fail)
 refine (HS.out w1 HG.out).mono ?_
 rintro e w2 ⟨rfl,hg2⟩
 have HG2:=hid (Grows.trans HG.out hg2)
 clear hg2
 go_wp2_with (fail)
 go_ret
 exact ⟨rfl,HG2.out⟩
theorem Zeh (w:World) (d:Nat) (n:Int) (hn:-9223372036854775808≤n∧n≤9223372036854775807) :
 Calls Tryz.prog 132 #[.agg (segV d n)] w fun e w'=>∃ g,e=.returned (.slice (some ⟨g,0,none⟩) 5 5)∧w.heap.size≤g∧Sl w' (some ⟨g,0,none⟩) 5 5 (Zz n)∧Grows w w':=by
 have hm:=Whole.made w 176 (segV d n)
 unfold segV at hm ⊢
 obtain ⟨s,hs⟩:∃ s:ByteArray,(⟨(nmS n).toArray⟩:ByteArray)=s:=⟨_,rfl⟩
 rw [hs] at hm ⊢
 have c1:=hm.cell 1
 simp only [Gt] at c1
 clear hs hm
 go_enter Tryz.func132,Tryz.ntmps132
 go_wp2_with (fail)
 go_ret
 have hw:=Whole.made (w.alloc (.cells #[.pointer (some ⟨d,0,none⟩),.int .i64 n,.string s] 176)) 5 #[.int .u8 9,.int .u8 (n / 16777216 % 256),.int .u8 (n / 65536 % 256),.int .u8 (n / 256 % 256),.int .u8 (n % 256)]
 rw [World.size_alloc] at hw
 exact ⟨w.heap.size+1,rfl,by omega,hw.sl (Zz n) (Zgq n) (Yk n),Grows.trans (Za _ _) (Za _ _)⟩
end
end Go.Proofs.YtkelafkbmnjpeaaGreat
