/-
  Texts that the statements lean on, one behind the other.
-/
import Derived.Test.YtkelafkbmnjpeaaGreatMG19
import Derived.Test.YtkelafkbmnjpeaaGreatLgRolls
import Derived.Test.YtkelafkbmnjpeaaGreatMG36
set_option linter.unusedVariables false
set_option maxHeartbeats 4000000
set_option maxRecDepth 100000
namespace Go.Proofs.YtkelafkbmnjpeaaGreat
open Go.Lib (hid)
open Go.RowKit
theorem Zm2 (a b:List UInt8):(⟨a.toArray⟩:ByteArray)++(⟨b.toArray⟩:ByteArray)=⟨(a++b).toArray⟩:=by
 apply ByteArray.ext
 rw [ByteArray.data_append]
 simp
theorem Zi2 (k:Int) (c:UInt8) (hk:k=1∧c=115∨k=2∧c=104) (n:Nat) (hn:n≤99999999) (w:World) :
 Calls Tryz.prog 22 #[.int .i64 k,.int .i64 (n:Int)] w fun e w'=>e=.returned (.string ⟨(c :: digs n 8:List UInt8).toArray⟩)∧Grows w w':=by
 have h1:¬ (n:Int) < 0:=by omega
 have h2:¬ (99999999:Int) < (n:Int):=by omega
 have h3:¬ k < 1:=by omega
 have h4:¬ (4:Int) < k:=by omega
 have h5:¬ (2:Int) < k:=by omega
 have h6:(k==3)=false:=by rw [beq_eq_false_iff_ne];omega
 have h7:(k==4)=false:=by rw [beq_eq_false_iff_ne];omega
 have HK:=hid hk
 clear hk
 go_enter Tryz.func22,Tryz.ntmps22
 go_wp2_with (fail)
 go_loopw [1,5,6] (fun a s i wr=>∃ (j:Nat),j≤8∧i=.int .i64 (j:Int)∧a=.int .i64 ((n / 10 ^ j:Nat):Int)∧s=.string ⟨(digs n j).toArray⟩∧Hid (Grows w wr)) (fun _ _ i _=>8 - (intOf i).toNat)
 case atStart=>exact ⟨0,by omega,rfl,by simp,rfl,hid (Grows.refl _)⟩
 case round =>
  obtain ⟨j,hj,rfl,rfl,rfl,HB⟩:=hrel
  by_cases hlt:j < 8
  ·have hlt':(j:Int) < 8:=by omega
   obtain ⟨X,hX⟩:∃ X:Nat,n / 10 ^ j=X:=⟨_,rfl⟩
   have hX2:n / 10 ^ (j+1)=X / 10:=by rw [Nat.pow_succ,←Nat.div_div_eq_div_mul,hX]
   have hXl:X≤99999999:=by rw [←hX];exact Nat.le_trans (Nat.div_le_self _ _) hn
   have hd:((UInt8.ofNat (48+X % 10)).toNat:Int)=48+(X:Int) % 10:=by
    rw [Zew _ (Nat.mod_lt _ (by omega))]
    omega
   have hds:digs n (j+1)=UInt8.ofNat (48+X % 10) :: digs n j:=by rw [digs,hX]
   have hm1:IntKind.i64.wrap ((X:Int).tmod 10)=(X:Int) % 10:=by rw [Int.tmod_eq_emod_of_nonneg (by omega),IntWalk.i64_in _ ⟨by omega,by omega⟩]
   obtain ⟨b,hb⟩:∃ b,UInt8.ofNat (48+X % 10)=b:=⟨_,rfl⟩
   rw [hb] at hd hds
   have hm:=Whole.made wr 5 #[.int .u8 (48+(X:Int) % 10)]
   have hs:=Z8 (hm.sl [b] (by show _=[byteV b].toArray;rw [byteV,hd]) (n:=1) rfl)
   have HX:=hid hX
   have HX2:=hid hX2
   have HDS:=hid hds
   rw [hX]
   obtain ⟨D,hD⟩:∃ D,digs n j=D:=⟨_,rfl⟩
   have hDl:¬ 9223372036854775807 < 1+D.length:=by rw [←hD,Yc];omega
   rw [hD] at HDS ⊢
   have HAD:=hid (Zm2 [b] D)
   clear hX hX2 hds hd hm hb hD
   go_wp2_with (fail)
   refine ⟨⟨j+1,by omega,rfl,by rw [HX2.out];rfl,by rw [HDS.out];exact congrArg Value.string HAD.out,hid (Grows.trans HB.out (Za _ _))⟩,by simp [intOf];omega⟩
  ·obtain rfl:j=8:=by omega
   have hl:(⟨(digs n 8).toArray⟩:ByteArray).size=8:=by
    have:=Yc n 8
    simpa [ByteArray.size] using this
   have ha1:=Zm2 [115] (digs n 8)
   have ha2:=Zm2 [104] (digs n 8)
   have hl2:¬ 9223372036854775807 < 1+(digs n 8).length:=by rw [Yc];omega
   obtain ⟨D,hD⟩:∃ D,digs n 8=D:=⟨_,rfl⟩
   have HD:=hid hD
   rw [hD] at hl ha1 ha2 hl2 ⊢
   clear hD
   have HA1:=hid ha1
   have HA2:=hid ha2
   clear ha1 ha2
   rcases HK.out with ⟨rfl,rfl⟩ | ⟨rfl,rfl⟩
   ·go_wp2_with (fail)
    go_ret
    exact ⟨by rw [HD.out];exact congrArg (fun s=>Ending.returned (.string s)) HA1.out,HB.out⟩
   ·go_wp2_with (fail)
    go_ret
    exact ⟨by rw [HD.out];exact congrArg (fun s=>Ending.returned (.string s)) HA2.out,HB.out⟩
theorem Zaa (k n:Int) (w:World) :
 Calls Tryz.prog 22 #[.int .i64 k,.int .i64 n] w fun e w'=>e=.returned (.string ⟨(ofP k n).toArray⟩)∧Grows w w':=by
 by_cases h1:n < 0
 ·have e:ofP k n=[]:=by unfold ofP;rw [if_pos (.inl h1)]
  rw [e]
  go_enter Tryz.func22,Tryz.ntmps22
  go_wp2_with (fail)
  go_ret
  exact ⟨rfl,Grows.refl _⟩
 by_cases h2:99999999 < n
 ·have e:ofP k n=[]:=by unfold ofP;rw [if_pos (.inr h2)]
  rw [e]
  go_enter Tryz.func22,Tryz.ntmps22
  go_wp2_with (fail)
  go_ret
  exact ⟨rfl,Grows.refl _⟩
 obtain ⟨m,rfl⟩:∃ m:Nat,n=(m:Int):=⟨n.toNat,by omega⟩
 by_cases h3:k < 1
 ·have e:ofP k (m:Int)=[]:=by unfold ofP;rw [if_neg (by omega),if_neg (by omega),if_neg (by omega),if_neg (by omega),if_neg (by omega)]
  rw [e]
  go_enter Tryz.func22,Tryz.ntmps22
  go_wp2_with (fail)
  go_ret
  exact ⟨rfl,Grows.refl _⟩
 by_cases h4:4 < k
 ·have e:ofP k (m:Int)=[]:=by unfold ofP;rw [if_neg (by omega),if_neg (by omega),if_neg (by omega),if_neg (by omega),if_neg (by omega)]
  rw [e]
  go_enter Tryz.func22,Tryz.ntmps22
  go_wp2_with (fail)
  go_ret
  exact ⟨rfl,Grows.refl _⟩
 by_cases h5:2 < k
 ·by_cases h6:0 < (m:Int)
  ·have e:ofP k (m:Int)=[]:=by unfold ofP;rw [if_neg (by omega),if_neg (by omega),if_neg (by omega),if_neg (by omega),if_neg (by omega)]
   rw [e]
   go_enter Tryz.func22,Tryz.ntmps22
   go_wp2_with (fail)
   go_ret
   exact ⟨rfl,Grows.refl _⟩
  ·obtain rfl:m=0:=by omega
   by_cases h7:k=3
   ·subst h7
    rw [show ofP 3 ((0:Nat):Int)=[109] from rfl]
    go_enter Tryz.func22,Tryz.ntmps22
    go_wp2_with (fail)
    go_ret
    exact ⟨rfl,Grows.refl _⟩
   ·obtain rfl:k=4:=by omega
    rw [show ofP 4 ((0:Nat):Int)=[116] from rfl]
    go_enter Tryz.func22,Tryz.ntmps22
    go_wp2_with (fail)
    go_ret
    exact ⟨rfl,Grows.refl _⟩
 by_cases h8:k=1
 ·subst h8
  have e:ofP 1 (m:Int)=115 :: digs m 8:=by unfold ofP;rw [if_neg (by omega),if_pos rfl,Int.toNat_natCast]
  rw [e]
  exact Zi2 1 115 (.inl ⟨rfl,rfl⟩) m (by omega) w
 ·obtain rfl:k=2:=by omega
  have e:ofP 2 (m:Int)=104 :: digs m 8:=by unfold ofP;rw [if_neg (by omega),if_neg (by decide),if_pos rfl,Int.toNat_natCast]
  rw [e]
  exact Zi2 2 104 (.inr ⟨rfl,rfl⟩) m (by omega) w
theorem Ints.blk {W:World} {A:Option Addr} {n c:Nat} {xs:List Int} (h:Ints W A n c xs):∀ ad,A=some ad→xs≠[]→ad.block < W.heap.size:=by
 intro ad hA hne
 have hl:=h.len
 have hn:0 < n:=by rw [←hl];exact List.length_pos_iff.2 hne
 obtain ⟨ad',y,e,hc,_,hb⟩:=h.get hn
 rw [hA] at e
 injection e with e
 rw [e]
 exact hb
structure DR (i:Nat) (L:Lg):Prop where
 lw:∃ rs,LW (2*i) L rs
 ok:LOk (6*i) 65599 L.dk
 lim:L.limit≤65599
section
variable {i:Nat} {L:Lg}
theorem DR.new {n:Int} (hn:64≤n∧n≤65599):DR 0 (LG0 n):=⟨⟨_,LW.new (by omega)⟩,LOk.new _,hn.2⟩
theorem DR.r (h:DR i L):LgR L:=by obtain ⟨rs,h1⟩:=h.lw;exact h1.r
theorem DR.add (h:DR i L) (hi:i≤60) (r:Rc):DR (i+1) (laddP L r).1:=by
 obtain ⟨rs,h1⟩:=h.lw
 obtain ⟨rs',k1,k2⟩:=h1.ladd (by omega) r
 refine ⟨⟨rs',k1⟩,?_,by rw [k2];exact h.lim⟩
 have hfs:=Yv r
 have hlim:=h.lim
 unfold laddP
 by_cases hr:Zp r
 rotate_left 1
 ·rw [if_neg hr]
  exact h.ok.mono (by omega) (Nat.le_refl _)
 rw [if_pos hr]
 by_cases hf:fitsP L (frS r).length=true
 ·rw [if_pos hf]
  have hl:L.last≠-1:=fun e=>by unfold fitsP at hf;rw [e] at hf;simp at hf
  rw [h1.fits hl] at hf
  simp only [Bool.or_eq_true,decide_eq_true_eq] at hf
  exact (h1.lok h.ok hl r (Nat.le_refl _) (by omega)).mono (by omega) (Nat.le_refl _)
 ·rw [if_neg hf]
  obtain ⟨m',e1,e2⟩:=h1.roll (by omega)
  have ho:=h.ok.roll (by omega) h1.r.lasts
  rw [e1] at ho ⊢
  dsimp only
  rw [if_pos rfl]
  have hn:=h1.r.next
  refine (e2.lok ho (by show L.man.next≠-1;omega) r (Nat.le_refl _) ?_).mono (by omega) (Nat.le_refl _)
  show (segB L.man.next (if L.man.next=L.man.next then [] else rs L.man.next)).length+_≤_
  rw [if_pos rfl,Yg]
  simp only [Yp,List.map_nil,putL,List.length_nil]
  omega
end
theorem Zm3 {m:Dk} {n:Nm} (hd:m.down=false) (h:vw m n=none):m.remove n=(m,3):=by
 unfold Dk.remove
 rw [if_neg (by rw [hd];decide),vw_none.1 h]
theorem removes_well:∀ (l:List Nm) {m:Dk},Well m→FI m→Well (Zx l m)∧FI (Zx l m)∧∀ x,vw (Zx l m) x=if x∈l then none else vw m x
 | [],m,h1,h2=>⟨h1,h2,fun x=>by rw [if_neg (by simp)];rfl⟩
 | n :: l,m,h1,h2=>by
   have step:Well (m.remove n).1∧FI (m.remove n).1∧∀ x,vw (m.remove n).1 x=if x=n then none else vw m x:=by
    cases hv:vw m n with
    | none =>
      rw [Zm3 h1.down hv]
      refine ⟨h1,h2,fun x=>?_⟩
      by_cases e:x=n
      ·rw [if_pos e,e];exact hv
      ·rw [if_neg e]
    | some b =>
      obtain ⟨f,hf,_⟩:=Zj2 hv
      have e:=h1.remove hf
      obtain ⟨k1,k2⟩:=Zeh (n:=n) h2 f
      rw [e]
      exact ⟨⟨h1.down,h1.cut,h1.fail⟩,k1.of rfl rfl,fun x=>k2 x⟩
   obtain ⟨a1,a2,a3⟩:=step
   obtain ⟨b1,b2,b3⟩:=removes_well l a1 a2
   have hr:Zx (n :: l) m=Zx l (m.remove n).1:=rfl
   rw [hr]
   refine ⟨b1,b2,fun x=>?_⟩
   rw [b3,a3]
   by_cases e1:x∈l
   ·rw [if_pos e1,if_pos (List.mem_cons_of_mem _ e1)]
   ·rw [if_neg e1]
    by_cases e2:x=n
    ·rw [if_pos e2,if_pos (e2 ▸ List.mem_cons_self ..)]
    ·rw [if_neg e2,if_neg fun e3=>(List.mem_cons.1 e3).elim e2 e1]
theorem Zte {l:List Int} (hl:∀ n∈l,0≤n∧n≤99999999) {a:Int} (ha:0≤a∧a≤99999999):nmS a∈goneN l↔a∈l:=by
 unfold goneN
 rw [List.mem_flatMap]
 constructor
 ·rintro ⟨n,hn,hx⟩
  simp only [List.mem_cons,List.not_mem_nil,or_false] at hx
  rcases hx with hx | hx
  ·rw [Zdl ha hx];exact hn
  ·exact absurd hx (S_H ha)
 ·exact fun h=>⟨a,h,List.mem_cons_self ..⟩
theorem Zxs {l:List Int} (hl:∀ n∈l,0≤n∧n≤99999999) {a:Int} (ha:0≤a∧a≤99999999):nmH a∈goneN l↔a∈l:=by
 unfold goneN
 rw [List.mem_flatMap]
 constructor
 ·rintro ⟨n,hn,hx⟩
  simp only [List.mem_cons,List.not_mem_nil,or_false] at hx
  rcases hx with hx | hx
  ·exact absurd hx.symm (S_H (hl n hn))
  ·rw [Zmz ha hx];exact hn
 ·exact fun h=>⟨a,h,List.mem_cons_of_mem _ (List.mem_cons_self ..)⟩
theorem LW.drop {k:Nat} {L:Lg} {rs:Int→List Rc} (h:LW k L rs) (hk:k≤122) {ds:List Int} (hm:Yt L ds=true) :
 (dropP L ds).2=0∧∀ n∈L.man.segs,((dropP L ds).1.dk.size (nmS n)).2=!decide (n∈ds)∧(n∈ds→((dropP L ds).1.dk.size (nmH n)).2=false):=by
 obtain ⟨U,hws,hU⟩:=h.ws
 have hright:Z1 ⟨Yh ds L.man.segs,L.man.next⟩=true:=Zf0 h.r.man ds
 have hpl:=Zcx ⟨Yh ds L.man.segs,L.man.next⟩
 obtain ⟨c1,c2,c3⟩:=hws.save (s:=4015) hright h.noT h.man (by omega) (by omega)
 obtain ⟨m3,hm3⟩:∃ m3,(saveP L.dk ⟨Yh ds L.man.segs,L.man.next⟩).1=m3:=⟨_,rfl⟩
 rw [hm3] at c2 c3
 have hsv:Z0 L (Yh ds L.man.segs)=(⟨m3,L.limit,⟨Yh ds L.man.segs,L.man.next⟩,L.last⟩,0):=by
  unfold Z0
  rw [if_pos c1,hm3]
  rfl
 have hd:dropP L ds=(Lg.on ⟨m3,L.limit,⟨Yh ds L.man.segs,L.man.next⟩,L.last⟩ (Zx (goneN (goesL ds L.man.segs)) m3),0):=by
  unfold dropP
  rw [if_pos hm,hsv]
  dsimp only
  rw [if_pos rfl]
 obtain ⟨r1,r2,r3⟩:=removes_well (goneN (goesL ds L.man.segs)) c2.well c2.fi
 rw [hd]
 have hgs:∀ n∈goesL ds L.man.segs,0≤n∧n≤99999999:=fun n hn=>h.r.seg (List.mem_filter.1 hn).1
 have hgo:∀ n∈L.man.segs,n∈goesL ds L.man.segs↔n∈ds:=fun n hn=>by
  unfold goesL
  rw [List.mem_filter]
  exact ⟨fun e=>of_decide_eq_true e.2,fun e=>⟨hn,decide_eq_true e⟩⟩
 refine ⟨rfl,fun n hn=>?_⟩
 have hnr:=h.r.seg hn
 show ((Zx _ m3).size (nmS n)).2=_∧(_→((Zx _ m3).size (nmH n)).2=false)
 rw [Yq,Yq,r3,r3]
 refine ⟨?_,fun hin=>?_⟩
 ·by_cases hin:n∈ds
  ·rw [if_pos ((Zte hgs hnr).2 ((hgo n hn).2 hin)),decide_eq_true hin]
   rfl
  ·rw [if_neg fun e=>hin ((hgo n hn).1 ((Zte hgs hnr).1 e)),decide_eq_false hin,c3,if_neg S_M,(h.segs n hn).1]
   rfl
 ·rw [if_pos ((Zxs hgs hnr).2 ((hgo n hn).2 hin))]
theorem Zvn {L:Lg} {ds:List Int} {i:Nat} {y:Int} (h:ds[i]?=some y):Yt L (ds.take (i+1))=(Yt L (ds.take i)&&(L.has y&&!decide (y=L.last))):=by
 unfold Yt
 rw [List.take_add_one,h,List.all_append]
 simp
end Go.Proofs.YtkelafkbmnjpeaaGreat
