/-
  Texts that the statements lean on, one behind the other.
-/
import Derived.Test.YtkelafkbmnjpeaaGreatMG41
import Derived.Test.YtkelafkbmnjpeaaGreatMG00
import Derived.LoopTactic
import Derived.IntWalk
import Derived.Lib.Hide
import Derived.WalkLawsBesides
import Derived.Test.YtkelafkbmnjpeaaGreatMG20
set_option maxHeartbeats 8000000
set_option maxRecDepth 100000
namespace Go.Proofs.YtkelafkbmnjpeaaGreat
open Go.Lib (hid)
open Go.RowKit
theorem Zhw (a b s:Nat) (h:a+b=s) (hs:s≤9000000000000000000):IntKind.i64.wrap ((a:Int)+(b:Int))=(s:Int):=by
 rw [IntWalk.i64_in _ (by omega)];omega
theorem Zb6 (a:Addr) (k:Nat):a.add (k+1)={ block:=a.block,off:=a.off+(k+1) }:=Addr.add_succ' a k
theorem Zos {k n:Nat} (h:k < n):n - (intOf (Value.int IntKind.i64 ((k:Int)+1))).toNat < n - (intOf (Value.int IntKind.i64 (k:Int))).toNat:=by
 simp only [intOf]
 omega
theorem Zui (t q:Nat) (h:min t 20000=q):(if (20000:Int) < (t:Int) then (20000:Int) else (t:Int))=(q:Int):=by split <;> omega
def Zen (o:O15):Nat:=o.x.b.length+o.x.key.length+10*o.x.locs.length+o.bytes.length+o.segs.length
def Zbj (os:List O15):Nat:=(os.map fun o=>min (Zen o) 20000).sum
def Zb7 (os:List O15):Nat:=(os.map Zen).sum
theorem Zot {os:List O15} {i:Nat} {o:O15} (h:os[i]?=some o):Zbj (os.take (i+1))=Zbj (os.take i)+min (Zen o) 20000:=by
 unfold Zbj
 rw [List.take_add_one,h,List.map_append,List.sum_append]
 simp
theorem Zou {os:List O15} {i:Nat} {o:O15} (h:os[i]?=some o):Zb7 (os.take (i+1))=Zb7 (os.take i)+Zen o:=by
 unfold Zb7
 rw [List.take_add_one,h,List.map_append,List.sum_append]
 simp
theorem Zl1 (os:List O15) (i:Nat):Zb7 (os.take i)≤Zb7 os:=by
 unfold Zb7
 conv=>rhs;rw [←List.take_append_drop i os,List.map_append,List.sum_append]
 omega
theorem o15min_small:∀ {os:List O15},Zbj os < 20000→Zb7 os=Zbj os
 | [],_=>rfl
 | o :: os,h=>by
   unfold Zbj at h
   rw [List.map_cons,List.sum_cons] at h
   have h2:Zbj os < 20000:=by unfold Zbj;omega
   have:=o15min_small h2
   unfold Zb7 Zbj at *
   rw [List.map_cons,List.sum_cons,List.map_cons,List.sum_cons,this]
   omega

theorem Zl2 (A:Option Addr) (n c:Nat) (os:List O15) (w:World) (hx:Ops15 w A n c os) :
 Calls Tryz.prog 12 #[.slice A n c] w fun e w'=>(e=.returned (.bool true)∧Grows w w')∨(e=.returned (.bool false)∧n≤100∧n+Zb7 os < 20000∧Grows w w'):=by
 have HX:=hid hx
 have HLEN:=hid hx.len
 have hnc:=hx.cap
 have htop:=hx.top
 clear hx
 go_enter Tryz.func12,Tryz.ntmps12
 go_wp2_with (fail)
 by_cases hbig:20000≤n
 ·have hb1:¬ n < 20000:=by omega
  have hb2:¬ (n:Int) < 20000:=by omega
  have hb3:(20000:Int)≤(n:Int):=by omega
  go_loopw [3,4] (fun vn vi wr=>vn=.int .i64 (n:Nat)∧vi=.int .i64 0∧w=wr) (fun _ _ _=>0)
  case atStart=>exact ⟨rfl,rfl,rfl⟩
  case round =>
   obtain ⟨rfl,rfl,rfl⟩:=hrel
   have h0:(0:Int) < (n:Int):=by omega
   have h0':0 < n:=by omega
   go_wp2_with (fail)
   go_ret
   exact .inl ⟨rfl,Grows.refl _⟩
 ·go_loopw [3,4] (fun vn vi wr=>∃ k acc:Nat,k≤n∧acc≤40000∧vn=.int .i64 (acc:Nat)∧vi=.int .i64 (k:Nat)∧Hid (acc=n+Zbj (os.take k))∧Hid (Grows w wr)) (fun _ i _=>n - (intOf i).toNat)
  case atStart=>exact ⟨0,n,Nat.zero_le _,by omega,rfl,rfl,hid (by simp [Zbj]),hid (Grows.refl _)⟩
  case round =>
   obtain ⟨k,acc,hk,hacc,rfl,rfl,HACC,HG⟩:=hrel
   by_cases hlt:k < n
   ·by_cases hac:acc < 20000
    ·obtain ⟨ad,o,p,rfl,hblk,hoi,hat,hcs⟩:=HX.out.spot k hlt
     have k0:(0:Int)≤(k:Int):=by omega
     have k1:(k:Int) < (n:Int):=by omega
     have ka:(acc:Int) < 20000:=by omega
     have ii:IntKind.i64.wrap ((k:Int)+1)=(k:Int)+1:=Zhw k 1 (k+1) rfl (by omega)
     obtain ⟨s1,hs1⟩:∃ s:ByteArray,(⟨o.x.key.toArray⟩:ByteArray)=s:=⟨_,rfl⟩
     obtain ⟨x1,hx1⟩:∃ x,s1.size=x:=⟨_,rfl⟩
     have hn1:x1=o.x.key.length:=by rw [←hx1,←hs1];simp [ByteArray.size]
     have hlb:=hat.x.sl.len
     have hll:=hat.x.locs.len
     have hli:=hat.bytes.len
     have hls:=hat.segs.len
     have hsm:=hat.small
     have c3:∀ w',Grows wr w'→w'.cell? { block:=(ad.add (k*13)).block,off:=(ad.add (k*13)).off+2 }=some (.string s1):=fun w' hg=>by
      have:=hcs 2 (by omega)
      rw [Zb6] at this
      rw [(Grows.trans HG.out hg).cell (by rw [Zk];exact hblk),this,←hs1]
      rfl
     have c7:∀ w',Grows wr w'→w'.cell? { block:=(ad.add (k*13)).block,off:=(ad.add (k*13)).off+6 }=some (.slice p.LA p.ln p.lc):=fun w' hg=>by
      have:=hcs 6 (by omega)
      rw [Zb6] at this
      rw [(Grows.trans HG.out hg).cell (by rw [Zk];exact hblk),this]
      rfl
     have c8:∀ w',Grows wr w'→w'.cell? { block:=(ad.add (k*13)).block,off:=(ad.add (k*13)).off+7 }=some (.slice p.BA p.bn p.bc):=fun w' hg=>by
      have:=hcs 7 (by omega)
      rw [Zb6] at this
      rw [(Grows.trans HG.out hg).cell (by rw [Zk];exact hblk),this]
      rfl
     have c10:∀ w',Grows wr w'→w'.cell? { block:=(ad.add (k*13)).block,off:=(ad.add (k*13)).off+11 }=some (.slice p.IA p.im p.ic):=fun w' hg=>by
      have:=hcs 11 (by omega)
      rw [Zb6] at this
      rw [(Grows.trans HG.out hg).cell (by rw [Zk];exact hblk),this]
      rfl
     have c12:∀ w',Grows wr w'→w'.cell? { block:=(ad.add (k*13)).block,off:=(ad.add (k*13)).off+10 }=some (.slice p.SA p.sn p.sc):=fun w' hg=>by
      have:=hcs 10 (by omega)
      rw [Zb6] at this
      rw [(Grows.trans HG.out hg).cell (by rw [Zk];exact hblk),this]
      rfl
     have HCF:=hid (fun w' hg=>And.intro (c3 w' hg) (And.intro (c7 w' hg) (And.intro (c8 w' hg) (And.intro (c10 w' hg) (c12 w' hg)))))
     obtain ⟨t1,ht1⟩:∃ t,p.bn+x1=t:=⟨_,rfl⟩
     obtain ⟨tm,htm⟩:∃ t,10*p.ln=t:=⟨_,rfl⟩
     obtain ⟨t2,ht2⟩:∃ t,t1+tm=t:=⟨_,rfl⟩
     obtain ⟨u3,hu3⟩:∃ t,t2+p.im=t:=⟨_,rfl⟩
     obtain ⟨t3,ht3⟩:∃ t,u3+p.sn=t:=⟨_,rfl⟩
     have w1:=Zhw _ _ _ ht1 (by omega)
     have wm:IntKind.i64.wrap (10*(p.ln:Int))=(tm:Int):=by rw [IntWalk.i64_in _ (by omega)];omega
     have w2:=Zhw _ _ _ ht2 (by omega)
     have wu:=Zhw _ _ _ hu3 (by omega)
     have w3:=Zhw _ _ _ ht3 (by omega)
     have ht:Zen o=t3:=by unfold Zen;omega
     have HT:=hid (And.intro ht hoi)
     obtain ⟨bn,hbn⟩:∃ x,p.bn=x:=⟨_,rfl⟩
     obtain ⟨im,him⟩:∃ x,p.im=x:=⟨_,rfl⟩
     obtain ⟨ln,hln⟩:∃ x,p.ln=x:=⟨_,rfl⟩
     obtain ⟨sn,hsn⟩:∃ x,p.sn=x:=⟨_,rfl⟩
     have HPQ:=hid (And.intro hbn (And.intro him (And.intro hln hsn)))
     rw [hbn] at w1
     rw [him] at wu
     rw [hsn] at w3
     rw [hln] at wm
     have hmn:min t3 20000≤20000:=by omega
     obtain ⟨q,hq⟩:∃ q,min t3 20000=q:=⟨_,rfl⟩
     have w4:=Zhw acc q (acc+q) rfl (by omega)
     have HVAL:=hid (show acc+q=n+Zbj (os.take (k+1)) by rw [Zot HT.out.2,HT.out.1,hq];have:=HACC.out;omega)
     have HLQ:=hid (show acc+q≤40000 by omega)
     have HW:=hid (And.intro w1 (And.intro wm (And.intro w2 (And.intro wu (And.intro w3 w4)))))
     clear hlb hll hli hls hsm ht hoi hat hcs c3 c7 c8 c10 c12 hn1 ht1 ht2 hu3 ht3 htm hbn him hln hsn hmn hs1
     have hlen1:s1.size=x1:=hx1
     go_wp2_with (fail)
     refine Ya (by kernel_rfl) (by kernel_rfl) ?_
     iterate 42 (refine q_op' (v:=?_) (a':=?_) (by rfl) ?_ ?_ ?_
                 rotate_left 2
                 ·intro w' hC
                  obtain ⟨z1,z2,z3,z5,z6⟩:=HCF.out w' hC
                  first
                   | (go_simp;done)
                   | (go_simp;with_reducible rfl)

                 ·simp only [Pu]
                  try rfl)
     refine wpQuiet_nil ?_
     intro w5 hC
     have HG5:=hid (Grows.trans HG.out hC)
     clear hC HCF HG
     go_wp2_with (fail)
     refine ⟨⟨k+1,acc+q,hlt,HLQ.out,?_,rfl,HVAL,HG5⟩,Zos hlt⟩
     obtain ⟨w1,wm,w2,wu,w3,w4⟩:=HW.out
     have hmn : min (t3 : Int) 20000 = (q : Int) := by
      have hz := Zui t3 q hq
      split at hz <;> omega
     first
     | rw [HPQ.out.1,HPQ.out.2.1,HPQ.out.2.2.1,HPQ.out.2.2.2,w1,wm,w2,wu,w3,Zui t3 q hq,w4]
     | rw [HPQ.out.1,HPQ.out.2.1,HPQ.out.2.2.1,HPQ.out.2.2.2,w1,wm,w2,wu,w3,hmn,w4]
    ·have ka:¬ (acc:Int) < 20000:=by omega
     have kb:(20000:Int)≤(acc:Int):=by omega
     have k1:(k:Int) < (n:Int):=by omega
     go_wp2_with (fail)
     go_ret
     exact .inl ⟨rfl,HG.out⟩
   ·obtain rfl:k=n:=by omega
    by_cases h2:20000≤acc
    ·have h3:(20000:Int)≤(acc:Int):=by omega
     go_wp2_with (fail)
     go_ret
     exact .inl ⟨rfl,HG.out⟩
    ·have h3:¬ (20000:Int)≤(acc:Int):=by omega
     by_cases h5:100 < k
     ·have h6:(100:Int) < (k:Int):=by omega
      go_wp2_with (fail)
      go_ret
      exact .inl ⟨rfl,HG.out⟩
     ·have h6:¬ (100:Int) < (k:Int):=by omega
      have HFIN:=hid (show k≤100∧k+Zb7 os < 20000 by
       have h1:=HACC.out
       rw [List.take_of_length_le (by rw [HLEN.out];exact Nat.le_refl _)] at h1
       rw [o15min_small (by omega)]
       omega)
      go_wp2_with (fail)
      go_ret
      exact .inr ⟨rfl,HFIN.out.1,HFIN.out.2,HG.out⟩
end Go.Proofs.YtkelafkbmnjpeaaGreat

set_option maxHeartbeats 4000000
set_option maxRecDepth 100000
namespace Go.Proofs.YtkelafkbmnjpeaaGreat
open Go.Lib (hid)
open Go.RowKit

theorem Zl3 (a b:List UInt8):(⟨a.toArray⟩:ByteArray)++(⟨b.toArray⟩:ByteArray)=⟨(a++b).toArray⟩:=by
 apply ByteArray.ext
 rw [ByteArray.data_append]
 simp

theorem Zhx (k:Int) (c:UInt8) (hk:k=1∧c=115∨k=2∧c=104) (n:Nat) (hn:n≤99999999) (w:World) :
 Calls Tryz.prog 22 #[.int .i64 k,.int .i64 (n:Int)] w fun e w'=>e=.returned (.string ⟨(c :: digs n 8:List UInt8).toArray⟩)∧Grows w w':=by
 have h1:¬ (n:Int) < 0:=by omega
 have h2:¬ (99999999:Int) < (n:Int):=by omega
 have h3:¬ k < 1:=by omega
 have h4:¬ (4:Int) < k:=by omega
 have h5:¬ (2:Int) < k:=by omega
 have h6:(k==3)=false:=by rw [beq_eq_false_iff_ne];omega
 have h7:(k==4)=false:=by rw [beq_eq_false_iff_ne];omega
 have HK:=hid hk
 clear hk
 go_enter Tryz.func22,Tryz.ntmps22
 go_wp2_with (fail)
 go_loopw [1,5,6] (fun a s i wr=>∃ (j:Nat),j≤8∧i=.int .i64 (j:Int)∧a=.int .i64 ((n / 10 ^ j:Nat):Int)∧s=.string ⟨(digs n j).toArray⟩∧Hid (Grows w wr)) (fun _ _ i _=>8 - (intOf i).toNat)
 case atStart=>exact ⟨0,by omega,rfl,by simp,rfl,hid (Grows.refl _)⟩
 case round =>
  obtain ⟨j,hj,rfl,rfl,rfl,HB⟩:=hrel
  by_cases hlt:j < 8
  ·have hlt':(j:Int) < 8:=by omega
   obtain ⟨X,hX⟩:∃ X:Nat,n / 10 ^ j=X:=⟨_,rfl⟩
   have hX2:n / 10 ^ (j+1)=X / 10:=by rw [Nat.pow_succ,←Nat.div_div_eq_div_mul,hX]
   have hXl:X≤99999999:=by rw [←hX];exact Nat.le_trans (Nat.div_le_self _ _) hn
   have hd:((UInt8.ofNat (48+X % 10)).toNat:Int)=48+(X:Int) % 10:=by
    rw [Zd2 _ (Nat.mod_lt _ (by omega))]
    omega
   have hds:digs n (j+1)=UInt8.ofNat (48+X % 10) :: digs n j:=by rw [digs,hX]
   have hm1:IntKind.i64.wrap ((X:Int).tmod 10)=(X:Int) % 10:=by rw [Int.tmod_eq_emod_of_nonneg (by omega),IntWalk.i64_in _ ⟨by omega,by omega⟩]
   obtain ⟨b,hb⟩:∃ b,UInt8.ofNat (48+X % 10)=b:=⟨_,rfl⟩
   rw [hb] at hd hds
   have hm:=Whole.made wr 5 #[.int .u8 (48+(X:Int) % 10)]
   have hs:=Z5 (hm.sl [b] (by show _=[byteV b].toArray;rw [byteV,hd]) (n:=1) rfl)
   have HX:=hid hX
   have HX2:=hid hX2
   have HDS:=hid hds
   rw [hX]
   obtain ⟨D,hD⟩:∃ D,digs n j=D:=⟨_,rfl⟩
   have hDl:¬ 9223372036854775807 < 1+D.length:=by rw [←hD,Yb];omega
   rw [hD] at HDS ⊢
   have HAD:=hid (Zl3 [b] D)
   clear hX hX2 hds hd hm hb hD
   go_wp2_with (fail)
   refine ⟨⟨j+1,by omega,rfl,by rw [HX2.out];rfl,by rw [HDS.out];exact congrArg Value.string HAD.out,hid (Grows.trans HB.out (Za _ _))⟩,by simp [intOf];omega⟩
  ·obtain rfl:j=8:=by omega
   have hl:(⟨(digs n 8).toArray⟩:ByteArray).size=8:=by
    have:=Yb n 8
    simpa [ByteArray.size] using this
   have ha1:=Zl3 [115] (digs n 8)
   have ha2:=Zl3 [104] (digs n 8)
   have hl2:¬ 9223372036854775807 < 1+(digs n 8).length:=by rw [Yb];omega
   obtain ⟨D,hD⟩:∃ D,digs n 8=D:=⟨_,rfl⟩
   have HD:=hid hD
   rw [hD] at hl ha1 ha2 hl2 ⊢
   clear hD
   have HA1:=hid ha1
   have HA2:=hid ha2
   clear ha1 ha2
   rcases HK.out with ⟨rfl,rfl⟩ | ⟨rfl,rfl⟩
   ·go_wp2_with (fail)
    go_ret
    exact ⟨by rw [HD.out];exact congrArg (fun s=>Ending.returned (.string s)) HA1.out,HB.out⟩
   ·go_wp2_with (fail)
    go_ret
    exact ⟨by rw [HD.out];exact congrArg (fun s=>Ending.returned (.string s)) HA2.out,HB.out⟩

theorem Zcj (k n:Int) (w:World) :
 Calls Tryz.prog 22 #[.int .i64 k,.int .i64 n] w fun e w'=>e=.returned (.string ⟨(ofP k n).toArray⟩)∧Grows w w':=by
 by_cases h1:n < 0
 ·have e:ofP k n=[]:=by unfold ofP;rw [if_pos (.inl h1)]
  rw [e]
  go_enter Tryz.func22,Tryz.ntmps22
  go_wp2_with (fail)
  go_ret
  exact ⟨rfl,Grows.refl _⟩
 by_cases h2:99999999 < n
 ·have e:ofP k n=[]:=by unfold ofP;rw [if_pos (.inr h2)]
  rw [e]
  go_enter Tryz.func22,Tryz.ntmps22
  go_wp2_with (fail)
  go_ret
  exact ⟨rfl,Grows.refl _⟩
 obtain ⟨m,rfl⟩:∃ m:Nat,n=(m:Int):=⟨n.toNat,by omega⟩
 by_cases h3:k < 1
 ·have e:ofP k (m:Int)=[]:=by unfold ofP;rw [if_neg (by omega),if_neg (by omega),if_neg (by omega),if_neg (by omega),if_neg (by omega)]
  rw [e]
  go_enter Tryz.func22,Tryz.ntmps22
  go_wp2_with (fail)
  go_ret
  exact ⟨rfl,Grows.refl _⟩
 by_cases h4:4 < k
 ·have e:ofP k (m:Int)=[]:=by unfold ofP;rw [if_neg (by omega),if_neg (by omega),if_neg (by omega),if_neg (by omega),if_neg (by omega)]
  rw [e]
  go_enter Tryz.func22,Tryz.ntmps22
  go_wp2_with (fail)
  go_ret
  exact ⟨rfl,Grows.refl _⟩
 by_cases h5:2 < k
 ·by_cases h6:0 < (m:Int)
  ·have e:ofP k (m:Int)=[]:=by unfold ofP;rw [if_neg (by omega),if_neg (by omega),if_neg (by omega),if_neg (by omega),if_neg (by omega)]
   rw [e]
   go_enter Tryz.func22,Tryz.ntmps22
   go_wp2_with (fail)
   go_ret
   exact ⟨rfl,Grows.refl _⟩
  ·obtain rfl:m=0:=by omega
   by_cases h7:k=3
   ·subst h7
    rw [show ofP 3 ((0:Nat):Int)=[109] from rfl]
    go_enter Tryz.func22,Tryz.ntmps22
    go_wp2_with (fail)
    go_ret
    exact ⟨rfl,Grows.refl _⟩
   ·obtain rfl:k=4:=by omega
    rw [show ofP 4 ((0:Nat):Int)=[116] from rfl]
    go_enter Tryz.func22,Tryz.ntmps22
    go_wp2_with (fail)
    go_ret
    exact ⟨rfl,Grows.refl _⟩
 by_cases h8:k=1
 ·subst h8
  have e:ofP 1 (m:Int)=115 :: digs m 8:=by unfold ofP;rw [if_neg (by omega),if_pos rfl,Int.toNat_natCast]
  rw [e]
  exact Zhx 1 115 (.inl ⟨rfl,rfl⟩) m (by omega) w
 ·obtain rfl:k=2:=by omega
  have e:ofP 2 (m:Int)=104 :: digs m 8:=by unfold ofP;rw [if_neg (by omega),if_neg (by decide),if_pos rfl,Int.toNat_natCast]
  rw [e]
  exact Zhx 2 104 (.inr ⟨rfl,rfl⟩) m (by omega) w
end Go.Proofs.YtkelafkbmnjpeaaGreat
