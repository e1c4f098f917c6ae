/-
  Texts that the statements lean on, one behind the other.
-/
import Derived.Test.YtkelafkbmnjpeaaGreatMG24
import Derived.Test.YtkelafkbmnjpeaaGreatMG04
import Derived.Test.YtkelafkbmnjpeaaGreatMG18
import Derived.Test.YtkelafkbmnjpeaaGreatMG10
import Derived.Test.YtkelafkbmnjpeaaGreatMG03
import Derived.Test.YtkelafkbmnjpeaaGreatMG11
import Derived.Test.YtkelafkbmnjpeaaGreatMG14
import Derived.Test.YtkelafkbmnjpeaaGreatMG05
import Derived.RangeFuncCalls
set_option linter.unusedSimpArgs false
set_option linter.unusedVariables false
set_option maxHeartbeats 4000000
set_option maxRecDepth 100000
namespace Go.Proofs.YtkelafkbmnjpeaaGreat
open Go.Lib (hid)
open Go.RowKit
def kindP (c:UInt8):Int:=if c=115 then 1 else if c=104 then 2 else if c=109 then 3 else if c=116 then 4 else 0
theorem Ztb (c:UInt8):Lib.indexByte [115,104,109,116] c=kindP c - 1:=by
 unfold kindP
 by_cases h1:c=115
 ·subst h1;rfl
 by_cases h2:c=104
 ·subst h2;rfl
 by_cases h3:c=109
 ·subst h3;rfl
 by_cases h4:c=116
 ·subst h4;rfl
 rw [if_neg h1,if_neg h2,if_neg h3,if_neg h4]
 have q1:(115==c)=false:=by simpa using fun e=>h1 e.symm
 have q2:(104==c)=false:=by simpa using fun e=>h2 e.symm
 have q3:(109==c)=false:=by simpa using fun e=>h3 e.symm
 have q4:(116==c)=false:=by simpa using fun e=>h4 e.symm
 simp [Lib.indexByte,q1,q2,q3,q4]
theorem Zqn (c:UInt8) (r:List UInt8) (x:Int) (h:x=(c.toNat:Int)):Lib.indexByte (⟨#[115,104,109,116]⟩:ByteArray).data.toList x.toNat.toUInt8=kindP c - 1:=by
 subst h
 rw [←Ztb]
 congr 1
 simp
theorem Zie (x:Int) (c:UInt8) (h:x=(c.toNat:Int)) (w:World):Calls Tryz.prog 256 #[.string ⟨#[115,104,109,116]⟩,.int .u8 x] w fun e w'=>e=.returned (.int .i64 (kindP c - 1))∧w=w':=by
 refine (strings_IndexByte _ _ _).mono ?_
 rintro e w1 ⟨rfl,hw⟩
 rw [Zqn c [] x h]
 exact ⟨rfl,hw.symm⟩
theorem Ztc (c:UInt8) (r:List UInt8):(⟨(c :: r).toArray⟩:ByteArray).extract 1 (r.length+1)=⟨r.toArray⟩:=by
 apply ByteArray.ext
 simp [ByteArray.data_extract]
def tripV (t:Int×Int×Bool):Value:=.tuple #[.int .i64 t.1,.int .i64 t.2.1,.bool t.2.2]
theorem J6 (c:UInt8) (r:List UInt8) (hr:r.length≤9223372036854775806) (k d:Int) (m:Int) (hk:kindP c=k) (hd:Jp k=(d,m)) (hd8:d=8∨d=0) (T:Int×Int×Bool) (hT:T=if m < 0∨(r.length:Int)≠d∨(numP r).2=false then (0,0,false) else (k,(numP r).1,true)) (w:World) :
 Calls Tryz.prog 183 #[.string ⟨(c :: r).toArray⟩] w fun e w'=>e=.returned (tripV T)∧Grows w w':=by
 have hsz:(⟨(c :: r).toArray⟩:ByteArray).size=r.length+1:=by simp [ByteArray.size]
 have e1:IntKind.i64.wrap (1+(k - 1))=k:=by
  rw [show 1+(k - 1)=k by omega]
  have:0≤k∧k≤4:=by rw [←hk];unfold kindP;repeat' split <;> omega
  exact IntWalk.i64_in _ ⟨by omega,by omega⟩
 have e2:IntKind.i64.wrap (1+d)=1+d:=IntWalk.i64_in _ ⟨by omega,by omega⟩
 have e3:wrap64 (1+(k - 1))=k:=by rw [←IntWalk.i64_left];exact e1
 have e4:wrap64 (1+d)=1+d:=by rw [←IntWalk.i64_left];exact e2
 have HK:=hid hk
 have HD:=hid hd
 have HD8:=hid hd8
 have HT:=hid hT
 clear hk hd hd8 hT
 by_cases hm:m < 0
 ·have hTT:T=(0,0,false):=by rw [HT.out,if_pos (.inl hm)]
  rw [hTT]
  clear hTT
  go_enter Tryz.func183,Tryz.ntmps183
  go_wp2_with (fail)
  refine (Zie _ c rfl _).mono ?_
  rintro e w1 ⟨rfl,rfl⟩
  rw [HK.out]
  go_wp2_with (fail)
  refine (Yt k _).mono ?_
  rintro e w1 ⟨rfl,rfl⟩
  rw [HD.out]
  go_wp2_with (fail)
  go_ret3
  exact ⟨rfl,Grows.refl _⟩
 ·by_cases hl:(r.length:Int)=d
  ·have hl2:((r.length:Int)+1==1+d)=true:=by rw [beq_iff_eq];omega
   have hl3:((r.length:Int)+1 != 1+d)=false:=by rw [bne,hl2];rfl
   have hnum:=Zny ⟨r.toArray⟩ (by rcases HD8.out with h | h <;> (simp [ByteArray.size];omega)) w
   have hx:=Ztc c r
   have HL:=hid hl
   have HN:=hid hnum
   have HX:=hid hx
   clear hl hnum hx
   go_enter Tryz.func183,Tryz.ntmps183
   go_wp2_with (fail)
   refine (Zie _ c rfl _).mono ?_
   rintro e w1 ⟨rfl,rfl⟩
   rw [HK.out]
   go_wp2_with (fail)
   refine (Yt k _).mono ?_
   rintro e w1 ⟨rfl,rfl⟩
   rw [HD.out]
   go_wp2_with (fail)
   rw [HX.out]
   refine HN.out.mono ?_
   rintro e w2 ⟨rfl,hb⟩
   have HB:=hid hb
   dsimp only
   obtain ⟨⟨nv,nb⟩,hnp⟩:∃ p,numP r=p:=⟨_,rfl⟩
   have HP:=hid hnp
   rw [hnp]
   clear hb hnp
   cases nb with
   | true =>
     go_wp2_with (fail)
     go_ret3
     have hTT:T=(k,nv,true):=by rw [HT.out,HP.out,if_neg (by simp;exact ⟨by omega,HL.out⟩)]
     rw [hTT]
     exact ⟨rfl,HB.out⟩
   | false =>
     go_wp2_with (fail)
     go_ret3
     have hTT:T=(0,0,false):=by rw [HT.out,HP.out,if_pos (.inr (.inr rfl))]
     rw [hTT]
     exact ⟨rfl,HB.out⟩
  ·have hl2:((r.length:Int)+1==1+d)=false:=by rw [beq_eq_false_iff_ne];omega
   have hl3:((r.length:Int)+1 != 1+d)=true:=by rw [bne,hl2];rfl
   have hTT:T=(0,0,false):=by rw [HT.out,if_pos (.inr (.inl hl))]
   rw [hTT]
   clear hl hTT
   go_enter Tryz.func183,Tryz.ntmps183
   go_wp2_with (fail)
   refine (Zie _ c rfl _).mono ?_
   rintro e w1 ⟨rfl,rfl⟩
   rw [HK.out]
   go_wp2_with (fail)
   refine (Yt k _).mono ?_
   rintro e w1 ⟨rfl,rfl⟩
   rw [HD.out]
   go_wp2_with (fail)
   go_ret3
   exact ⟨rfl,Grows.refl _⟩
theorem numP_nil:numP []=(0,true):=rfl
theorem Zei (r:List UInt8):numP r=if r.all isDig=true then (((val 0 r:Nat):Int),true) else (0,false):=rfl
theorem Zj1 (l:List UInt8) (hl:l.length≤9223372036854775807) (w:World) :
 Calls Tryz.prog 183 #[.string ⟨l.toArray⟩] w fun e w'=>e=.returned (tripV (trip (parseP l)))∧Grows w w':=by
 match l with
 | [] =>
   go_enter Tryz.func183,Tryz.ntmps183
   go_wp2_with (fail)
   go_ret3
   exact ⟨rfl,Grows.refl _⟩
 | c :: r =>
   have hr:r.length≤9223372036854775806:=by simpa using hl
   rw [Zcg]
   by_cases h1:c=115
   ·refine (J6 c r hr 1 8 99999999 (by rw [h1];rfl) rfl (.inl rfl) _ rfl w).mono fun e w' h=>?_
    rw [h.1]
    refine ⟨?_,h.2⟩
    congr 2
    by_cases h2:r.length=8∧r.all isDig=true
    ·rw [if_pos h2,if_pos h1,Zei,if_pos h2.2,if_neg (by simp;omega)]
     rfl
    ·rw [if_neg h2,if_pos]
     ·split
      ·rw [if_neg (by rw [h1];decide),if_neg (by rw [h1];decide)]
       rfl
      ·rfl
     ·right
      by_cases h3:r.length=8
      ·right
       rw [Zei,if_neg (fun h=>h2 ⟨h3,h⟩)]
      ·left
       omega
   by_cases h1b:c=104
   ·refine (J6 c r hr 2 8 99999999 (by rw [h1b];rfl) rfl (.inl rfl) _ rfl w).mono fun e w' h=>?_
    rw [h.1]
    refine ⟨?_,h.2⟩
    congr 2
    by_cases h2:r.length=8∧r.all isDig=true
    ·rw [if_pos h2,if_neg h1,if_pos h1b,Zei,if_pos h2.2,if_neg (by simp;omega)]
     rfl
    ·rw [if_neg h2,if_pos]
     ·split
      ·rw [if_neg (by rw [h1b];decide),if_neg (by rw [h1b];decide)]
       rfl
      ·rfl
     ·right
      by_cases h3:r.length=8
      ·right
       rw [Zei,if_neg (fun h=>h2 ⟨h3,h⟩)]
      ·left
       omega
   by_cases h4:c=109
   ·refine (J6 c r hr 3 0 0 (by rw [h4];rfl) rfl (.inr rfl) _ rfl w).mono fun e w' h=>?_
    rw [h.1]
    refine ⟨?_,h.2⟩
    congr 2
    by_cases h2:r=[]
    ·subst h2
     rw [if_neg (by rw [numP_nil];simp),if_neg (by simp),if_pos rfl,if_pos h4,numP_nil]
     rfl
    ·have:r.length≠0:=fun e=>h2 (List.eq_nil_of_length_eq_zero e)
     rw [if_pos (.inr (.inl (by omega))),if_neg h1,if_neg h1b,if_neg h2]
     split <;> rfl
   by_cases h5:c=116
   ·refine (J6 c r hr 4 0 0 (by rw [h5];rfl) rfl (.inr rfl) _ rfl w).mono fun e w' h=>?_
    rw [h.1]
    refine ⟨?_,h.2⟩
    congr 2
    by_cases h2:r=[]
    ·subst h2
     rw [if_neg (by rw [numP_nil];simp),if_neg (by simp),if_pos rfl,if_neg h4,if_pos h5,numP_nil]
     rfl
    ·have:r.length≠0:=fun e=>h2 (List.eq_nil_of_length_eq_zero e)
     rw [if_pos (.inr (.inl (by omega))),if_neg h1,if_neg h1b,if_neg h2]
     split <;> rfl
   refine (J6 c r hr 0 0 (-1) (by unfold kindP;rw [if_neg h1,if_neg h1b,if_neg h4,if_neg h5]) rfl (.inr rfl) _ rfl w).mono fun e w' h=>?_
   rw [h.1]
   refine ⟨?_,h.2⟩
   congr 2
   rw [if_pos (.inl (by omega)),if_neg h1,if_neg h1b,if_neg h4,if_neg h5]
   repeat' split
   all_goals rfl
end Go.Proofs.YtkelafkbmnjpeaaGreat
set_option maxHeartbeats 4000000
set_option maxRecDepth 100000
namespace Go.Proofs.YtkelafkbmnjpeaaGreat
open Go.Lib (hid)
open Go.RowKit
structure Strs (w:World) (A:Option Addr) (n c:Nat) (ls:List (List UInt8)):Prop where
 row:Row w w.heap.size A n (ls.map strV)
 cap:n≤c
 bare:A=none→c=0
 sizes:∀ s∈ls,s.length≤9223372036854775807
theorem Strs.len {w:World} {A:Option Addr} {n c:Nat} {ls:List (List UInt8)} (h:Strs w A n c ls):ls.length=n:=by have:=h.row.len;simpa using this
theorem Strs.grow {w w':World} {A:Option Addr} {n c:Nat} {ls:List (List UInt8)} (hg:Grows w w') (h:Strs w A n c ls):Strs w' A n c ls:=⟨hg.row h.row,h.cap,h.bare,h.sizes⟩
theorem Strs.get {w:World} {A:Option Addr} {n c:Nat} {ls:List (List UInt8)} (h:Strs w A n c ls) {j:Nat} (hj:j < n) :
 ∃ ad l,A=some ad∧w.cell? (ad.add j)=some (.string ⟨l.toArray⟩)∧ls[j]?=some l∧l.length≤9223372036854775807:=by
 have hl:=h.len
 have hx:ls[j]?=some ls[j]:=List.getElem?_eq_getElem (by omega)
 obtain ⟨ad,hA,_,hc⟩:=h.row.spot j (strV ls[j]) (by rw [List.getElem?_map,hx];rfl)
 exact ⟨ad,ls[j],hA,hc,hx,h.sizes _ (List.getElem_mem _)⟩
theorem Zqm (ls:List (List UInt8)) (j:Nat) (l:List UInt8) (h:ls[j]?=some l):numsP (ls.take (j+1))=numsP (ls.take j)++(segP l).toList:=by
 have hj:j < ls.length:=by
  rcases Nat.lt_or_ge j ls.length with h' | h'
  ·exact h'
  ·rw [List.getElem?_eq_none h'] at h;cases h
 rw [List.take_succ_eq_append_getElem hj,Zk8]
 rw [List.getElem?_eq_getElem hj,Option.some.injEq] at h
 rw [h]
 unfold numsP
 cases hs:segP l <;> simp [hs]
theorem Zs9 (l:List UInt8) (k n:Int) (is:Bool) (h:trip (parseP l)=(k,n,is)):segP l=if is=true∧k=1 then some n else none:=by
 unfold segP
 cases hp:parseP l with
 | none =>
   rw [hp] at h
   injection h with _ h
   injection h with _ h
   subst h
   rfl
 | some p =>
   obtain ⟨k',n'⟩:=p
   rw [hp] at h
   injection h with h1 h
   injection h with h2 h3
   subst h1 h2 h3
   simp
theorem Zta (A:Option Addr) (n c:Nat) (ls:List (List UInt8)) (w:World) (hs:Strs w A n c ls) (hn:n≤1000000) :
 Calls Tryz.prog 127 #[.slice A n c] w fun e w'=>∃ A' c',e=.returned (.slice A' (setP (numsP ls)).length c')∧w'.ownsRow w.heap.size 3 1 (.slice A' (setP (numsP ls)).length c') (setP (numsP ls)).length ((setP (numsP ls)).map intV)∧Below w.heap.size w w':=by
 have HS:=hid hs
 clear hs
 go_enter Tryz.func127,Tryz.ntmps127
 go_wp2_with (fail)
 go_loopw [3,11] (fun o i wr=>∃ (LA:Option Addr) (lc m j:Nat) (xs:List Int),j≤n∧m≤j∧i=.int .i64 (j:Int)∧o=.slice LA m lc∧Hid (xs=numsP (ls.take j))∧Hid (wr.ownsRow w.heap.size 3 1 (.slice LA m lc) m (xs.map intV))∧Hid (Grows w wr)) (fun _ i _=>n - (intOf i).toNat)
 case atStart=>exact ⟨none,0,0,0,[],by omega,by omega,rfl,rfl,hid rfl,hid (World.ownsRow_nil _ _ _ _),hid (Grows.refl _)⟩
 case round =>
  obtain ⟨LA,lc,m,j,xs,hj,hm,rfl,rfl,HX,HO,HG⟩:=hrel
  by_cases hlt:j < n
  ·obtain ⟨ad,l,rfl,hcell,hget,hll⟩:=(HS.out.grow HG.out).get hlt
   have hlt':(j:Int) < (n:Int):=by omega
   have HGET:=hid hget
   have HP:=hid (Zj1 l hll wr)
   clear hget
   go_wp2_with (fail)
   refine HP.out.mono ?_
   rintro e w2 ⟨rfl,hb⟩
   have HG2:=hid hb
   clear hb
   unfold tripV
   obtain ⟨⟨k,nn,is⟩,ht⟩:∃ t,trip (parseP l)=t:=⟨_,rfl⟩
   have HT:=hid ht
   rw [ht]
   dsimp only
   clear ht
   have hseg:=Zs9 l k nn is HT.out
   have hnx:=Zqm ls j l HGET.out
   rw [hseg,←HX.out] at hnx
   cases is with
   | false =>
     rw [if_neg (by simp)] at hnx
     have HNX:=hid hnx
     clear hseg hnx
     go_wp2_with (fail)
     exact ⟨⟨LA,lc,m,j+1,xs,by omega,by omega,rfl,rfl,hid (by rw [HNX.out];simp),hid (Zd HO.out HG2.out),hid (Grows.trans HG.out HG2.out)⟩,by simp [intOf];omega⟩
   | true =>
     by_cases hk:k=1
     ·rw [if_pos ⟨rfl,hk⟩] at hnx
      have HNX:=hid hnx
      subst hk
      clear hseg hnx
      have hm1:=Whole.made w2 3 #[.int .i64 nn]
      have HR:=hid (Whole.row hm1 ([nn].map intV) 1 rfl rfl)
      have HO2:=hid (Zd HO.out (Grows.trans HG2.out (Zb w2 (.cells #[.int .i64 nn] 3))))
      clear hm1
      go_wp2_with (at_builtin
                   refine Zde rfl (.tmp 26) (.tmp 28) rfl (base:=w.heap.size) rfl HO2.out (A:=some ⟨w2.heap.size,0,none⟩) (m:=1) (c:=1) rfl HR.out (fun h=>by cases h) (m+1) rfl (by omega) (by have:=HG.out.size;have:=HG2.out.size;simp;omega) ?_
                   intro A3 c3 w3 ho3 _ hb3
                   have HO3:=hid ho3
                   have HB3:=hid hb3
                   clear ho3 hb3)
      exact ⟨⟨A3,c3,m+1,j+1,xs++[nn],by omega,by omega,rfl,rfl,hid (by rw [HNX.out];rfl),HO3,hid (Below.trans (show Below w.heap.size w _ from Grows.trans (Grows.trans HG.out HG2.out) (Zb _ _)) HB3.out)⟩,by simp [intOf];omega⟩
     ·rw [if_neg (fun h=>hk h.2)] at hnx
      have HNX:=hid hnx
      have hkf:(k==1)=false:=by rw [beq_eq_false_iff_ne];exact hk
      clear hseg hnx hk
      go_wp2_with (fail)
      exact ⟨⟨LA,lc,m,j+1,xs,by omega,by omega,rfl,rfl,hid (by rw [HNX.out];simp),hid (Zd HO.out HG2.out),hid (Grows.trans HG.out HG2.out)⟩,by simp [intOf];omega⟩
  ·obtain rfl:j=n:=by omega
   have hx:=HX.out
   rw [List.take_of_length_le (by rw [HS.out.len];exact Nat.le_refl _)] at hx
   subst hx
   have HSO:=hid (Zs8 w.heap.size LA m lc _ wr HO.out HG.out.size (by omega))
   go_wp2_with (fail)
   refine HSO.out.mono ?_
   rintro e w2 ⟨rfl,ho2,hb2⟩
   have HB2:=hid (Below.trans (show Below w.heap.size w _ from HG.out) hb2)
   have HCO:=hid (Zk9 w.heap.size LA m lc _ w2 ho2 HB2.out.size (by omega))
   clear ho2 hb2
   go_wp2_with (fail)
   refine HCO.out.mono ?_
   rintro e w3 ⟨rfl,ho3,hb3⟩
   have HO3:=hid ho3
   have HB3:=hid (Below.trans HB2.out hb3)
   clear ho3 hb3
   go_wp2_with (fail)
   go_ret
   exact ⟨_,_,rfl,HO3.out,HB3.out⟩
end Go.Proofs.YtkelafkbmnjpeaaGreat
set_option maxHeartbeats 4000000
set_option maxRecDepth 100000
namespace Go.Proofs.YtkelafkbmnjpeaaGreat
open Go.Lib (hid)
open Go.RowKit Go.Shelf
attribute [local go_sem] Oper.semAt_some
theorem Zmo (A:Option Addr) (n c:Nat) (w:World):Calls Tryz.prog 237 #[.slice A n c,.int .i64 4] w fun e w'=>e=.returned (.func (.func 286) #[] #[.pointer (some ⟨w.heap.size,0,none⟩),.pointer (some ⟨w.heap.size+1,0,none⟩)])∧(w.alloc (.cells #[.slice A n c] 37)).alloc (.cells #[.int .i64 4] 3)=w':=by
 go_enter Tryz.func237,Tryz.ntmps237
 go_wp2
 go_ret
 exact ⟨rfl,rfl⟩
abbrev Cx:=List UInt8×Option Addr
def Zmp (x:Cx):Array Value:=#[.slice x.2 4 4]
def J7 (bs:List UInt8) (i:Nat):List UInt8:=(bs.drop (4*i)).take 4
def ToldC (B:Nat) (bs:List UInt8) (pre:List Cx) (x:Cx) (W0 W1:World):Prop:=x.1=J7 bs pre.length∧Sl W1 x.2 4 4 x.1∧4*pre.length+4≤bs.length∧∀ ad,x.2=some ad→ad.block < B
theorem fours_chunks:∀ (K:Nat) (bs:List UInt8),bs.length=4*K→foursL bs=(List.range K).map fun i=>valB (J7 bs i)
 | 0,bs,h=>by
   obtain rfl:bs=[]:=List.eq_nil_of_length_eq_zero (by omega)
   rfl
 | K+1,bs,h=>by
   match bs,h with
   | a :: b :: c :: d :: r,h =>
     rw [foursL,fours_chunks K r (by simp only [List.length_cons] at h;omega),List.range_succ_eq_map,List.map_cons,List.map_map]
     congr 1
theorem Zfq (n:Nat) (Bs Bn:Nat) (A:Option Addr) (N c K:Nat) (bs:List UInt8) (wA w:World) (hs:Sl wA A N c bs) (hl:Lowly wA w) (hb:Boxed w Bs 37 (.slice A N c)) (hb2:Boxed w Bn 3 (.int .i64 4)) (hN:N=4*K) (hK:K≤1000000) :
 Gives Tryz.prog n 286 #[.pointer (some ⟨Bs,0,none⟩),.pointer (some ⟨Bn,0,none⟩)] Zmp (ToldC wA.heap.size bs) (fun k=>k < wA.heap.size∨k=Bs∨k=Bn) (fun xs=>xs.map (fun x=>valB x.1)=foursL bs) (fun _=>True) w:=by
 intro l J Jx W hW hJ hJx hY h0
 have hlen:=hs.len
 have HI:=hid (And.intro hs (And.intro hlen hN))
 have HLW:=hid (show Lowly wA W∧Boxed W Bs 37 (.slice A N c)∧Boxed W Bn 3 (.int .i64 4) from ⟨hl.trans hW.size fun k hk=>hW.block k (Nat.lt_of_lt_of_le hk hl.1),(hW.block _ hb.lt).trans hb,(hW.block _ hb2.lt).trans hb2⟩)
 have HFC:=hid (fours_chunks K bs (by omega))
 have hcap:=hs.cap
 have HN:=hid (And.intro hN hcap)
 clear hs hl hb hb2 hlen hW hN hcap
 show CallsIn _ _ _ _ #[.func (.yield l) #[] #[],.pointer (some ⟨Bs,0,none⟩),.pointer (some ⟨Bn,0,none⟩)] _ _
 refine callsIn_of_wp Tryz.func286 rfl trivial ?_ rfl
 simp only [Tryz.ntmps286,List.size_toArray,List.length_cons,List.length_nil,Nat.reduceAdd,Nat.reduceSub,Array.replicate_succ,Array.replicate_zero,List.push_toArray,List.append_toArray,List.nil_append,List.cons_append]
 gi_wp2_with (fail)
 gi_loopw [4] (fun i wr=>∃ (pre:List Cx) (j i4:Nat),j≤K∧i=.int .i64 (i4:Nat)∧Hid (i4=4*j)∧Hid (pre.length=j∧pre.map (fun x=>valB x.1)=(List.range j).map fun i=>valB (J7 bs i))∧J pre wr∧Hid (Lowly wA wr∧Boxed wr Bs 37 (.slice A N c)∧Boxed wr Bn 3 (.int .i64 4))) (fun i _=>N - (intOf i).toNat)
 case atStart=>exact ⟨[],0,0,Nat.zero_le _,rfl,hid rfl,hid ⟨rfl,rfl⟩,h0,HLW⟩
 case round =>
  obtain ⟨pre,j,i4,hj,rfl,HE,HP,hJp,HL⟩:=hrel
  by_cases hlt:j < K
  ·have hltI:(i4:Int) < (N:Int):=by have:=HE.out;have:=HN.out;omega
   have hj0:(0:Int)≤(i4:Int):=by omega
   obtain ⟨j8,hj8⟩:∃ j8,i4+4=j8:=⟨_,rfl⟩
   have hw8:IntKind.i64.wrap ((i4:Int)+4)=(j8:Int):=by rw [IntWalk.i64_in _ (by have:=HE.out;omega)];omega
   have h84:j8 - i4=4:=by omega
   have h8n:¬ j8=i4:=by omega
   have h8a:(i4:Int)≤(j8:Int):=by omega
   have h8c:(j8:Int)≤(c:Int):=by have:=HE.out;have:=HN.out;omega
   have hcn:¬ c=i4:=by have:=HE.out;have:=HN.out;omega
   have hic:(i4:Int)≤(N:Int):=by omega
   have hNc:(N:Int)≤(c:Int):=by have:=HN.out;omega
   obtain ⟨r4,hr4⟩:∃ r4,N - i4=r4:=⟨_,rfl⟩
   have hmin:¬ ((r4:Int) < 4):=by have:=HE.out;have:=HN.out;omega
   have hsl0:=HI.out.1
   obtain ⟨ad,rfl⟩:∃ ad,A=some ad:=by
    obtain ⟨ad,h,_⟩:=hsl0.bytes.spot (k:=0) (by have:=HN.out;omega)
    exact ⟨ad,h⟩
   have hpart:=hsl0.part (k:=i4) (m:=j8) (by omega) (by have:=HE.out;have:=HN.out;omega) hcn
   have hblk:(ad.add i4).block < wA.heap.size:=by
    obtain ⟨ad',h,hb,_⟩:=hsl0.bytes.spot (k:=0) (by have:=HN.out;omega)
    injection h with h
    rw [Zk,h]
    exact hb
   have HPT:=hid (show Sl wA (some (ad.add i4)) 4 4 (J7 bs j)∧(ad.add i4).block < wA.heap.size from by
    refine ⟨?_,hblk⟩
    rw [h84] at hpart
    have e:(bs.take j8).drop i4=J7 bs j:=by
     unfold J7
     rw [List.drop_take,h84,HE.out]
    rw [e] at hpart
    exact ⟨hpart.bytes,Nat.le_refl _,fun h=>by cases h⟩)
   have HC:=hid (show ∀ w',Grows wr w'→w'.cell? { block:=Bs,off:=0 }=some (.slice (some ad) N c)∧w'.cell? { block:=Bn,off:=0 }=some (.int .i64 4) from fun w' hC=>⟨Boxed.cell ((hC.block _ HL.out.2.1.lt).trans HL.out.2.1),Boxed.cell ((hC.block _ HL.out.2.2.lt).trans HL.out.2.2)⟩)
   have HLT:=hid hlt
   have HJP:=hid hJp
   have HEE:=hid hj8
   obtain ⟨k1,k2⟩:=HC.out wr (Grows.refl _)
   clear hpart hblk hsl0 hj8 hlt
   gi_wp2_with (fail)
   clear k1 k2
   refine wpIn_wide.2 ?_
   refine Zg (E:=Grows) [Za (.int .i64 4),Za (.slice (some ad) N c),Za (.int .i64 (i4:Nat)),Za (.slice (some (ad.add i4)) r4 (c - i4)),Za (.int .i64 (r4:Nat)),Za (.int .i64 4),Za (.int .i64 4)] (by kernel_rfl) (by kernel_rfl) (fun _ _ _=>Grows.trans) (Ze _) ?_
   iterate 2
    refine f_val _ (by rfl) ?_ ?_
    ·intro w' hC;obtain ⟨z1,z2⟩:=HC.out w' hC;clear hC;go_simp
    simp only [Pu]
   iterate 3
    refine f_val _ (by rfl) ?_ ?_
    ·intro w' hC;clear hC;go_simp
    simp only [Pu]
   refine f_val _ (by rfl) ?_ ?_
   ·intro w' hC;clear hC;first | (go_simp;done) | (go_simp;first | omega | (intro h;omega))
   simp only [Pu]
   refine f_val _ (by rfl) ?_ ?_
   ·intro w' hC;clear hC;go_simp
   simp only [Pu]
   refine Zs ?_
   intro w2 hC hks
   have HCw2:=hid hC
   clear hC hks
   obtain ⟨k1,k2⟩:=HC.out w2 HCw2.out
   have htold:ToldC wA.heap.size bs pre (J7 bs j,some (ad.add i4)) wr w2:=by
    have h1:=HL.out.1.trans HCw2.out.size fun k hk=>HCw2.out.block k (Nat.lt_of_lt_of_le hk HL.out.1.1)
    refine ⟨by rw [HP.out.1],HPT.out.1.lowly h1,by rw [HP.out.1];have:=HLT.out;have:=HI.out.2;omega,fun a e=>?_⟩
    injection e with e
    rw [←e]
    exact HPT.out.2
   obtain ⟨fn,tmps,assign,body,hy,hR⟩:=hY pre (J7 bs j,some (ad.add i4)) wr w2 HJP.out HCw2.out htold
   dsimp only [Zmp] at hy
   have HR:=hid hR
   clear htold hR hr4
   gi_wp2_with (fail)
   refine ⟨(fun h=>by cases h),RoundIn.mono (Zdr HR.out) ?_⟩
   rintro e W3 (⟨rfl,hJ3,hsz3,hk3⟩ | ⟨rfl,hJx3⟩)
   ·have hL1:=HL.out.1.trans HCw2.out.size fun k hk=>HCw2.out.block k (Nat.lt_of_lt_of_le hk HL.out.1.1)
    have hB1:=(HCw2.out.block _ HL.out.2.1.lt).trans HL.out.2.1
    have hB2:=(HCw2.out.block _ HL.out.2.2.lt).trans HL.out.2.2
    have HL3:=hid (show Lowly wA W3∧Boxed W3 Bs 37 (.slice (some ad) N c)∧Boxed W3 Bn 3 (.int .i64 4) from ⟨hL1.trans hsz3 fun k hk=>hk3 k (Nat.lt_of_lt_of_le hk hL1.1) (.inl (.inl hk)),(hk3 Bs (Boxed.lt hB1) (.inl (.inr (.inl rfl)))).trans hB1,(hk3 Bn (Boxed.lt hB2) (.inl (.inr (.inr rfl)))).trans hB2⟩)
    have HJ3:=hid hJ3
    have HPS:=hid (show (pre++[((J7 bs j,some (ad.add i4)):Cx)]).length=j+1∧(pre++[((J7 bs j,some (ad.add i4)):Cx)]).map (fun x=>valB x.1)=(List.range (j+1)).map fun i=>valB (J7 bs i) from ⟨by rw [List.length_append,HP.out.1];rfl,by rw [List.map_append,HP.out.2,List.range_succ,List.map_append];rfl⟩)
    have m1:=HL3.out.2.1.cell
    have m2:=HL3.out.2.2.cell
    clear hL1 hB1 hB2 hsz3 hk3 hJ3 hy k1 k2
    gi_wp2_with (fail)
    go_roundw
    case rel=>exact ⟨_,j+1,j8,HLT.out,rfl,hid (by have:=HE.out;have:=HEE.out;omega),HPS,HJ3.out,HL3⟩
    case measure=>simp only [intOf];have:=HEE.out;omega
   ·have HX:=hid hJx3
    clear hJx3 hy k1 k2
    gi_wp2_with (fail)
    refine bodyPost_ret (results_none rfl _ _ _) rfl ?_
    exact ⟨⟨_,rfl⟩,.inr ⟨_,trivial,HX.out⟩⟩
  ·obtain rfl:j=K:=by omega
   have hltI:¬ ((i4:Int) < (N:Int)):=by have:=HE.out;have:=HN.out;omega
   obtain ⟨k1,k2⟩:wr.cell? { block:=Bs,off:=0 }=some (.slice A N c)∧wr.cell? { block:=Bn,off:=0 }=some (.int .i64 4):=⟨HL.out.2.1.cell,HL.out.2.2.cell⟩
   gi_wp2_with (fail)
   go_end0
   refine ⟨⟨_,rfl⟩,.inl ⟨pre,?_,hJp⟩⟩
   rw [HP.out.2,HFC.out]
end Go.Proofs.YtkelafkbmnjpeaaGreat
set_option maxHeartbeats 4000000
set_option maxRecDepth 100000
namespace Go.Proofs.YtkelafkbmnjpeaaGreat
open Go.Lib (hid)
open Go.RowKit
theorem J8 (A:Option Addr) (m c:Nat) (bs:List UInt8) (w:World) (h:Sl w A m c bs) (hm:m≤6) :
 Calls Tryz.prog 236 #[.slice A m c] w fun e w'=>e=.returned (.int .i64 (valB bs))∧w=w':=by
 have hlen:=Bytes.len h.bytes
 have HL:=hid h
 clear h
 go_enter Tryz.func236,Tryz.ntmps236
 go_wp2_with (fail)
 go_loop [3,8] (fun n i=>∃ j:Nat,j≤m∧i=.int .i64 (j:Nat)∧n=.int .i64 (valB (bs.take j))) (fun _ i=>m - (intOf i).toNat)
 case atStart=>exact ⟨0,by omega,rfl,rfl⟩
 case round =>
  obtain ⟨j,hj,rfl,rfl⟩:=hrel
  by_cases hlt:j < m
  ·obtain ⟨ad,rfl,_,hc⟩:=HL.out.bytes.spot hlt
   have hnx:=Ze6 bs j (by omega)
   have hsm:=Y7 (bs.take j) (by rw [List.length_take];omega)
   have hsm2:=Y7 (bs.take (j+1)) (by rw [List.length_take];omega)
   have hb:=(bs.getD j 0).toNat_lt
   generalize bs.getD j 0=b at *
   generalize valB (bs.take j)=v at *
   have HX:=hid hnx
   have k0:(0:Int)≤(j:Int):=by omega
   have k1:(j:Int) < (m:Int):=by omega
   clear hnx
   go_wp2_with (fail)
   go_round
   case rel=>exact ⟨j+1,by omega,by go_num,by rw [HX.out,Zkt v _ (by omega) (by have:=hsm2;rw [HX.out] at this;omega) hb];congr 1;omega⟩
   case measure=>simp [intOf];omega
  ·obtain rfl:j=m:=by omega
   have e1:bs.take j=bs:=List.take_of_length_le (by omega)
   rw [e1]
   go_wp2_with (fail)
   go_ret
   exact ⟨rfl,rfl⟩
theorem Zif (base:Nat) (A0:Option Addr) (n0 c0:Nat) (xs:List UInt8) (x:Int) (k:Nat) (w:World) (ho:w.ownsRow base 5 1 (.slice A0 n0 c0) n0 (xs.map byteV)) (hb:base≤w.heap.size) (hn:n0≤1000000) (hk:k≤8) :
 Calls Tryz.prog 262 #[.slice A0 n0 c0,.int .i64 x,.int .i64 (k:Int)] w fun e w'=>∃ A' c',e=.returned (.slice A' (n0+k) c')∧w'.ownsRow base 5 1 (.slice A' (n0+k) c') (n0+k) ((xs++numB x k).map byteV)∧Below base w w'∧Stay w w':=by
 have HO:=hid ho
 clear ho
 have hk1:IntKind.i64.wrap ((k:Int) - 1)=(k:Int) - 1:=IntWalk.i64_in _ ⟨by omega,by omega⟩
 go_enter Tryz.func262,Tryz.ntmps262
 go_wp2_with (fail)
 go_loopw [0,9] (fun m i wr=>∃ (A:Option Addr) (c j n:Nat),j≤k∧i=.int .i64 (j:Nat)∧m=.slice A n c∧Hid (n=n0+j)∧Hid (wr.ownsRow base 5 1 (.slice A n c) n ((xs++(numB x k).take j).map byteV))∧Hid (Below base w wr∧Stay w wr)) (fun _ i _=>k - (intOf i).toNat)
 case atStart=>exact ⟨A0,c0,0,n0,by omega,rfl,rfl,hid rfl,hid (by simpa using HO.out),hid ⟨Below.refl _ _,Stay.refl _⟩⟩
 case round =>
  obtain ⟨A,c,j,n,hj,rfl,rfl,HN,HR,HB⟩:=hrel
  by_cases hlt:j < k
  ·obtain ⟨i,hi⟩:∃ i:Nat,k=j+1+i:=⟨k - (j+1),by omega⟩
   have e1:IntKind.i64.wrap ((k:Int) - 1 - (j:Int))=(i:Int):=by rw [IntWalk.i64_in _ ⟨by omega,by omega⟩];omega
   have e2:IntKind.i64.wrap (8*(i:Int))=8*(i:Int):=IntWalk.i64_in _ ⟨by omega,by omega⟩
   have e3:wrap64 (8*(i:Int))=8*(i:Int):=by rw [←IntWalk.i64_left];exact e2
   have hjj:(j:Int) < (k:Int):=by omega
   have e5:IntKind.i64.wrap ((j:Int)+1)=(j:Int)+1:=IntWalk.i64_in _ ⟨by omega,by omega⟩
   have h0:(0:Int)≤(i:Int):=by omega
   have h7:i≤7:=by omega
   have hby:x / 2 ^ (8*i) % 256=((byteI (x / 256 ^ i)).toNat:Int):=by
    rw [Yn,show (2:Int) ^ (8*i)=256 ^ i by rw [Int.pow_mul];rfl]
   have hnx:=Zfe x k j i hi
   generalize byteI (x / 256 ^ i)=b at *
   have HX:=hid hnx
   have HI:=hid hi
   have hm:=Whole.made wr 5 #[.int .u8 (b.toNat:Int)]
   have HM:=hid (Whole.sl hm [b] rfl (n:=1) rfl)
   have HG:=hid (Zd HR.out (Zb wr (.cells #[.int .u8 (b.toNat:Int)] 5)))
   clear hnx hm hi
   go_wp2_with (at_builtin
                refine Za4 isSl_bytes isSl_bytes rfl (.tmp 12) (.tmp 21) rfl (base:=base) rfl HG.out (A:=some ⟨wr.heap.size,0,none⟩) (m:=1) (c:=1) rfl HM.out (n+1) rfl (by have:=HN.out;omega) (by have:=HB.out.1.size;simp;omega) ?_
                intro A2 c2 w2 ho2 hb2 hs2
                have HO2:=hid ho2
                have HB2:=hid (And.intro (Below.trans (HB.out.1.alloc (Nat.le_trans hb HB.out.1.size) _) hb2) (Stay.trans HB.out.2 (Stay.trans (Stay.grow (Zb _ _)) hs2)))
                clear ho2 hb2 hs2)
   go_roundw
   case rel=>exact ⟨A2,c2,j+1,n+1,by omega,by first | rfl | go_num,rfl,hid (by have:=HN.out;omega),hid (by rw [HX.out,←List.append_assoc];exact HO2.out),HB2⟩
   case measure=>(simp [intOf] <;> omega)
  ·obtain rfl:j=k:=by omega
   have HR':=HR.out
   rw [List.take_of_length_le (by rw [Z1];omega),HN.out] at HR'
   have hN:=HN.out
   subst hN
   have HF:=hid HR'
   clear HR'
   go_wp2_with (fail)
   go_ret
   exact ⟨A,c,rfl,by simpa using HF.out,HB.out⟩
end Go.Proofs.YtkelafkbmnjpeaaGreat
namespace Go.Proofs.YtkelafkbmnjpeaaGreat
open Go.RowKit
section
variable {P:Program} {md:Region.Mode} {ops:Array Oper} {G E:World→World→Prop} {W:World} {m lr:Nat}
theorem Zb0 {Q':Exit→Act→World→Prop}:∀ (l:List Oper) (k:Nat) (listed:Array Bool) (a:Act) (w:World),(∀ j,l[j]?=ops[k+j]?) →
 Region.seqB md ops l.length k listed=true→wpListIn (Fence.wide.inRound lr) m P ops Q' l a w→wpAnyIn (Fence.wide.inRound lr) m P md ops Q' l.length listed a w
 | [],_,_,_,_,_,hB,h=>⟨by simpa [Region.seqB] using hB,h⟩
 | o :: l,k,listed,a,w,hl,hB,h=>by
   have h0:ops[k]?=some o:=by simpa using (hl 0).symm
   simp only [List.length_cons,Region.seqB,Bool.and_eq_true,decide_eq_true_eq] at hB
   refine ⟨fun h1=>(by rw [hB.1] at h1;cases h1),fun i hi=>?_⟩
   rw [hB.1] at hi
   have hik:i=k:=by simpa using hi
   subst hik
   have hw:wpOpIn (Fence.wide.inRound lr) m P ops Q' i (wpListIn (Fence.wide.inRound lr) m P ops Q' l) a w:=by unfold wpOpIn;simp only [h0];exact h
   exact wpOpIn_mono (fun a' w' h'=>Zb0 l (i+1) _ a' w' (fun j=>by have:=hl (j+1);simpa [Nat.add_assoc,Nat.add_comm 1 j] using this) hB.2 h') hw
theorem Yx (hnd:∀ (i:Nat) o,ops[i]?=some o→∀ c,o.op≠.defer c) {n g:Nat} {Js:Nat→Job G E} {Z:Act→World→Prop} {Q':Exit→Act→World→Prop} (hGE:∀ a b,G a b→E a b) (ht:∀ a b c,E a b→E b c→E a c) (hZ:∀ listed a w,Region.seqB md ops g n listed=true→Z a w→wpAnyIn (Fence.wide.inRound lr) m P md ops Q' g listed a w) :
 ∀ (f:Nat) (listed:Array Bool) (ks:Known) (C:World→Prop) (a:Act) (w:World),E W w→ks.all w→C w→(∀ k∈ks,∀ w w',k.2 w→E w w'→k.2 w')→(∀ w w',C w→G w w'→C w')→Jl P md ops W n g Js Z f listed ks C a→wpAnyIn (Fence.wide.inRound lr) m P md ops Q' (f+g) listed a w
 | 0,listed,ks,C,a,w,hw,ha,hCw,_,_,h=>by rw [Nat.zero_add];exact hZ _ _ _ h.1 (h.2 w hw ha hCw)
 | f+1,listed,ks,C,a,w,hw,ha,hCw,hst,hcl,h=>by
   rw [show f+1+g=(f+g)+1 by omega]
   refine ⟨fun h0=>absurd h0 h.1,fun i hi=>?_⟩
   have h1:=(h.2 i hi).2
   unfold jOp at h1
   unfold wpOpIn
   split
   ·rename_i ho;simp only [ho] at h1;exact Yx hnd hGE ht hZ f _ ks C a w hw ha hCw hst hcl h1
   ·rename_i o ho
    simp only [ho] at h1
    unfold jStep at h1
    split
    ·rename_i hwd
     simp only [hwd,if_true] at h1
     obtain ⟨hg,hK⟩:=h1
     have hg':=hg w hw (Known.all_for ha) (fun _=>hCw)
     have go:∀ x w',(Js i).left x w w'→wpAnyIn (Fence.wide.inRound lr) m P md ops Q' (f+g) (listed.setIfInBounds i true) (a.put o.dst ((Js i).val x)) w':=fun x w' hlf=>by
      obtain ⟨hR,h1,h2⟩:=hlf
      have he:E w w':=by
       cases hu:(Js i).wr
       ·exact hGE _ _ (h2 hu)
       ·exact (h1 hu).1
      refine Yx hnd hGE ht hZ f _ _ _ _ w' (ht _ _ _ hw he) (fun k hk=>by
       rcases List.mem_cons.1 hk with rfl | hk
       ·exact hR
       ·exact hst k hk _ _ (ha k hk) he) ?_ (fun k hk=>by
       rcases List.mem_cons.1 hk with rfl | hk
       ·exact (Js i).stays x
       ·exact hst k hk) ?_ (hK x)
      ·cases hu:(Js i).wr
       ·rw [Job.cls_off hu];exact hcl _ _ hCw (h2 hu)
       ·rw [Job.cls_on hu];exact (h1 hu).2
      ·cases hu:(Js i).wr
       ·rw [Job.cls_off hu];exact hcl
       ·rw [Job.cls_on hu];exact (Js i).closed x
     refine ⟨fun _ _=>trivial,?_⟩
     rw [show (Fence.wide.inRound lr).round=some lr from rfl,Oper.semAt_some lr _ _ (hnd i o ho)]
     generalize (execOp a.eval o).run P w=r at *
     cases r with
     | ok n w' =>
       cases n <;> simp only [Zgp] at hg' <;> simp only [Oper.uponIn]
       case value u=>obtain ⟨x,rfl,hR⟩:=hg';exact go x w' hR
       case skip=>obtain ⟨x,hx,hR⟩:=hg';rw [hx];exact go x w' hR
       case enter f args=>exact ⟨(fun h=>by cases h),(CallsIn.inRound lr (callsIn_wide.2 hg')).mono fun e w'' ⟨x,hx,hR⟩=>by subst hx;exact go x w'' hR⟩
     | halt x w'=>simp only [Zgp] at hg'
    ·rename_i hwd
     simp only [hwd] at h1
     exact ⟨fun _ _=>trivial,Yx hnd hGE ht hZ f _ ks C _ w hw ha hCw hst hcl h1⟩
theorem Zb1 {id:Nat} {Q:Exit→Act→World→Prop} {a:Act} {w:World} {l:List Oper} (n:Nat) (js:List (Job G E)) (us:List (Bool×Bool)) (C:World→Prop) (hus:us=js.map fun J=>(J.rd,J.wr)) (hm:P.follows .mixedOrders=true) (hB:(Region.lexTailB .any l.toArray n&&usesB .any l.toArray us)=true)
 (hnd:(l.all fun o=>match o.op with | .defer _=>false | _=>true)=true) (hGE:∀ a b,G a b→E a b) (ht:∀ a b c,E a b→E b c→E a c) (hd:E w { w with drawn:=w.drawn+1 }) (hC:C { w with drawn:=w.drawn+1 }) (hcl:∀ w w',C w→G w w'→C w')
 (h:wpJ (G:=G) (E:=E) P l.toArray w (fun a' w'=>wpListIn (Fence.wide.inRound lr) m P l.toArray Q (l.drop n) a' w') (l.take n) js [] C a):(Code.region id l.toArray true).wpIn (Fence.wide.inRound lr) m P Q a w:=by
 simp only [Region.lexTailB,Bool.and_eq_true,decide_eq_true_eq] at hB
 obtain ⟨⟨⟨⟨⟨hsel,hn⟩,hs⟩,hc⟩,hlex⟩,huB⟩:=hB
 have hn':n < l.length:=by simpa using hn
 have htl:(l.take n).length=n:=by simp;omega
 have hdl:(l.drop n).length=l.toArray.size - n:=by simp
 have inv0:HeadInv .any l.toArray n (Array.replicate l.toArray.size false) :=
  ⟨by simp,fun j oj _ hl=>(by rw [getD_replicate_false] at hl;cases hl),fun t _ ht=>getD_in (by simpa using ht) (getD_replicate_false _ _)⟩
 have hgd:∀ i,(((js[i]?).getD Job.none).rd,((js[i]?).getD Job.none).wr)=us.getD i (false,false):=fun i=>by
  subst hus
  rw [List.getD_eq_getElem?_getD,List.getElem?_map]
  cases js[i]? <;> rfl
 have H:=Zcn (P:=P) (md:=.any) (W:=w) (g:=l.toArray.size - n) (Js:=fun i=>(js[i]?).getD Job.none) (Z:=fun a' w'=>wpListIn (Fence.wide.inRound lr) m P l.toArray Q (l.drop n) a' w') hsel hs hc hn
  (fun i j hij h1=>Zgq huB hij (by rw [←hgd,←hgd];exact h1)) (l.take n) 0 js _ [] C a (fun j hj=>by
  have hj':j < n:=by rw [htl] at hj;exact hj
  simp [hj']) (fun j F hj=>by simp only [Nat.zero_add,hj,Option.getD_some]) (by simpa using htl) inv0 (fun j hj=>absurd hj (Nat.not_lt_zero j)) (by rw [htl];exact hlex) h
 have hnd':∀ (i:Nat) o,l.toArray[i]?=some o→∀ c,o.op≠.defer c:=fun i o ho c hc=>by
  have:=List.all_eq_true.1 hnd o (List.mem_of_getElem? (by simpa using ho))
  simp [hc] at this
 refine wpIn_region_any hm ?_
 have:=Yx (m:=m) (Q':=Q) hnd' hGE ht (fun listed a' w' hseq hL=>by
  have:=Zb0 (m:=m) (md:=.any) (Q':=Q) (l.drop n) n listed a' w' (fun j=>by simp [List.getElem?_drop]) (by rw [hdl];exact hseq) hL
  rwa [hdl] at this) _ _ _ _ _ { w with drawn:=w.drawn+1 } hd (fun k hk=>by cases hk) hC (fun k hk=>by cases hk) hcl H
 rw [htl,show n+(l.toArray.size - n)=l.toArray.size by omega] at this
 exact this
end
section
variable {own:Nat→Prop} {P:Program} {ops:Array Oper} {W:World} {Q:Act→World→Prop} {o:Oper} {rest:List Oper} {js:List (Job Grows (Zc own))} {ks:Known} {C:World→Prop} {a:Act}
end
end Go.Proofs.YtkelafkbmnjpeaaGreat
