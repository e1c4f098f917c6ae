import Derived.Test.YtkelafkbmnjpeaaGreatMG42
import Derived.Test.YtkelafkbmnjpeaaGreatMG26
set_option maxHeartbeats 4000000
set_option maxRecDepth 100000
namespace Go.Proofs.YtkelafkbmnjpeaaGreat
open Go.Lib (hid)
open Go.RowKit

theorem Zi2 (l:List UInt8) (hl:l.length≤9223372036854775807) (w:World) :
 Calls Tryz.prog 47 #[.string ⟨l.toArray⟩] w fun e w'=>e=.returned (tripV (trip (parseP l)))∧Grows w w':=by
 obtain ⟨T,hT⟩:∃ T,trip (parseP l)=T:=⟨_,rfl⟩
 rw [hT]
 have HT:=hid hT
 have hsz:(⟨l.toArray⟩:ByteArray).size=l.length:=by simp [ByteArray.size]
 clear hT
 go_enter Tryz.func47,Tryz.ntmps47
 go_wp2_with (fail)
 go_loopw [5,6] (fun a i wr=>∃ (j:Nat) (X:Int),j≤8∧(j=0∨j+1≤l.length)∧i=.int .i64 ((j:Int)+1)∧a=.int .i64 X∧Hid (X=rnum 0 ((l.drop 1).take j))∧wr=w) (fun _ i _=>9 - (intOf i).toNat)
 case atStart=>exact ⟨0,0,by omega,.inl rfl,rfl,rfl,hid rfl,rfl⟩
 case round =>
  obtain ⟨j,X,hj8,hj,rfl,rfl,HX,rfl⟩:=hrel
  by_cases hlt:j+1 < l.length∧j+1 < 9
  ·have h1:(j:Int)+1 < (l.length:Int):=by omega
   have h2:(j:Int)+1 < 9:=by omega
   have hjl:j+1 < l.length:=hlt.1
   have hjb:j+1 < (⟨l.toArray⟩:ByteArray).size:=by rw [hsz];exact hjl
   have hc:(⟨l.toArray⟩:ByteArray)[j+1]'hjb=l[j+1]'hjl:=rfl
   have hbd:=rnum_bound ((l.drop 1).take j) 0
   rw [←HX.out] at hbd
   have hpw:(10:Int) ^ ((l.drop 1).take j).length≤100000000:=by
    have h8:((l.drop 1).take j).length≤8:=by rw [List.length_take];omega
    have:=Nat.pow_le_pow_right (show 0 < 10 by omega) h8
    have h3:((10 ^ ((l.drop 1).take j).length:Nat):Int)≤((10 ^ 8:Nat):Int):=Int.ofNat_le.2 this
    simpa using h3
   have hXb:-100000000 < X∧X < 100000000:=by
    simp only [Int.natAbs_zero] at hbd
    omega
   have hne:rnum 0 ((l.drop 1).take (j+1))=10*X+Int.tmod (((l[j+1]'hjl).toNat:Int) - 48) 10:=by
    have hd:j < (l.drop 1).length:=by rw [List.length_drop];omega
    rw [List.take_succ_eq_append_getElem hd,rnum_append,←HX.out,List.getElem_drop]
    congr 4
    simp only [Nat.add_comm]
   have HNE:=hid hne
   have hcl:(l[j+1]'hjl).toNat < 256:=(l[j+1]'hjl).toNat_lt
   clear hbd hpw hne
   go_wp2_with (fail)
   refine ⟨⟨j+1,_,by omega,.inr (by omega),by congr 1,rfl,hid ?_,trivial⟩,by simp [intOf];omega⟩
   rw [HNE.out]
   generalize (l[j+1]'hjl).toNat=C at *
   have ht1:Int.tmod ((C:Int) - 48) 10 < 10:=Int.tmod_lt_of_pos _ (by omega)
   have ht2:-10 < Int.tmod ((C:Int) - 48) 10:=by
    have:=Int.tmod_lt_of_pos (-((C:Int) - 48)) (show (0:Int) < 10 by omega)
    rw [Int.neg_tmod] at this
    omega
   exact IntWalk.wrap64_in _ ⟨by omega,by omega⟩
  ·have hXX:X=rnum 0 ((l.drop 1).take 8):=by
    rw [HX.out]
    congr 1
    rcases Nat.lt_or_ge (j+1) l.length with h | h
    ·obtain rfl:j=8:=by omega
     rfl
    ·rw [List.take_of_length_le (by rw [List.length_drop];omega),List.take_of_length_le (by rw [List.length_drop];omega)]
   have HXX:=hid hXX
   clear hXX
   by_cases hj1:j+1 < l.length
   ·have h1:(j:Int)+1 < (l.length:Int):=by omega
    have h2:¬ (j:Int)+1 < 9:=by omega
    go_wp2_with (fail)
    go_loopw [7,8] (fun a b w2=>∃ (k:Nat),1≤k∧k≤5∧a=.int .i64 (k:Int)∧Hid (∀ k':Nat,1≤k'→k' < k→l≠[]→ofP (k':Int) (if k'≤2 then X else 0)≠l)∧Hid (Grows wr w2)) (fun a _ _=>5 - (intOf a).toNat)
    case atStart=>exact ⟨1,by omega,by omega,rfl,hid (fun k' h1 h2=>by omega),hid (Grows.refl _)⟩
    case round =>
     obtain ⟨k,hk1,hk5,rfl,HNO,HG⟩:=hrel
     by_cases hk4:k≤4
     ·have h4:(k:Int)≤4:=by omega
      by_cases hk2:k≤2
      ·have h3:¬ (2:Int) < (k:Int):=by omega
       have HOF:=hid (Zcj (k:Int) X wr)
       have hif:(if k≤2 then X else 0)=X:=if_pos hk2
       have HIF:=hid hif
       clear hif
       by_cases hne:l=[]
       ·subst hne
        go_wp2_with (fail)
        exact ⟨⟨k+1,by omega,by omega,rfl,hid (fun k' h1 h2 h3=>absurd rfl h3),HG⟩,by simp [intOf];omega⟩
       ·have hie:l.isEmpty=false:=by cases l with
         | nil=>exact absurd rfl hne
         | cons _ _=>rfl
        have HNE:=hid hne
        clear hne
        go_wp2_with (fail)
        refine HOF.out.mono ?_
        rintro e w3 ⟨rfl,hb⟩
        have HB:=hid (Grows.trans HG.out hb)
        obtain ⟨R,hR⟩:∃ R,ofP (k:Int) X=R:=⟨_,rfl⟩
        have HR:=hid hR
        rw [hR]
        clear hR hb
        by_cases hRl:R=l
        ·have hT:T=((k:Int),X,true):=by
          rw [←HT.out,Zez l (k:Int) X HNE.out (by rw [HR.out];exact hRl)]
          rfl
         have HTT:=hid hT
         subst hRl
         clear hT
         go_wp2_with (fail)
         go_ret3
         rw [HTT.out]
         exact ⟨rfl,HB.out⟩
        ·have HRL:=hid hRl
         have hRb:(R==l)=false:=by simpa using hRl
         clear hRl
         go_wp2_with (fail)
         refine ⟨⟨k+1,by omega,by omega,rfl,hid (fun k' h1 h2 h3=>?_),HB⟩,by simp [intOf];omega⟩
         by_cases hkk:k'=k
         ·subst hkk
          rw [HIF.out,HR.out]
          exact HRL.out
         ·exact HNO.out k' h1 (by omega) h3
      ·have h3:(2:Int) < (k:Int):=by omega
       have HOF:=hid (Zcj (k:Int) 0 wr)
       have hif:(if k≤2 then X else 0)=0:=if_neg hk2
       have HIF:=hid hif
       clear hif
       by_cases hne:l=[]
       ·subst hne
        go_wp2_with (fail)
        exact ⟨⟨k+1,by omega,by omega,rfl,hid (fun k' h1 h2 h3=>absurd rfl h3),HG⟩,by simp [intOf];omega⟩
       ·have hie:l.isEmpty=false:=by cases l with
         | nil=>exact absurd rfl hne
         | cons _ _=>rfl
        have HNE:=hid hne
        clear hne
        go_wp2_with (fail)
        refine HOF.out.mono ?_
        rintro e w3 ⟨rfl,hb⟩
        have HB:=hid (Grows.trans HG.out hb)
        obtain ⟨R,hR⟩:∃ R,ofP (k:Int) 0=R:=⟨_,rfl⟩
        have HR:=hid hR
        rw [hR]
        clear hR hb
        by_cases hRl:R=l
        ·have hT:T=((k:Int),0,true):=by
          rw [←HT.out,Zez l (k:Int) 0 HNE.out (by rw [HR.out];exact hRl)]
          rfl
         have HTT:=hid hT
         subst hRl
         clear hT
         go_wp2_with (fail)
         go_ret3
         rw [HTT.out]
         exact ⟨rfl,HB.out⟩
        ·have HRL:=hid hRl
         have hRb:(R==l)=false:=by simpa using hRl
         clear hRl
         go_wp2_with (fail)
         refine ⟨⟨k+1,by omega,by omega,rfl,hid (fun k' h1 h2 h3=>?_),HB⟩,by simp [intOf];omega⟩
         by_cases hkk:k'=k
         ·subst hkk
          rw [HIF.out,HR.out]
          exact HRL.out
         ·exact HNO.out k' h1 (by omega) h3
     ·obtain rfl:k=5:=by omega
      have hT:T=(0,0,false):=by
       rw [←HT.out]
       cases hp:parseP l with
       | none=>rfl
       | some p =>
         exfalso
         obtain ⟨kk,nn⟩:=p
         obtain ⟨q1,q2,q3,q4,q5,q6⟩:=Zci l kk nn hp
         refine HNO.out kk.toNat (by omega) (by omega) q6 ?_
         rw [show ((kk.toNat:Nat):Int)=kk by omega]
         by_cases hkk:kk.toNat≤2
         ·rw [if_pos hkk,HXX.out,Zqq l kk nn hp (by omega)]
          exact Zdi l kk nn hp
         ·rw [if_neg hkk,←q5 (by omega)]
          exact Zdi l kk nn hp
      have HTT:=hid hT
      clear hT
      go_wp2_with (fail)
      go_ret3
      rw [HTT.out]
      exact ⟨rfl,HG.out⟩
   ·have h1:¬ (j:Int)+1 < (l.length:Int):=by omega
    go_wp2_with (fail)
    go_loopw [7,8] (fun a b w2=>∃ (k:Nat),1≤k∧k≤5∧a=.int .i64 (k:Int)∧Hid (∀ k':Nat,1≤k'→k' < k→l≠[]→ofP (k':Int) (if k'≤2 then X else 0)≠l)∧Hid (Grows wr w2)) (fun a _ _=>5 - (intOf a).toNat)
    case atStart=>exact ⟨1,by omega,by omega,rfl,hid (fun k' h1 h2=>by omega),hid (Grows.refl _)⟩
    case round =>
     obtain ⟨k,hk1,hk5,rfl,HNO,HG⟩:=hrel
     by_cases hk4:k≤4
     ·have h4:(k:Int)≤4:=by omega
      by_cases hk2:k≤2
      ·have h3:¬ (2:Int) < (k:Int):=by omega
       have HOF:=hid (Zcj (k:Int) X wr)
       have hif:(if k≤2 then X else 0)=X:=if_pos hk2
       have HIF:=hid hif
       clear hif
       by_cases hne:l=[]
       ·subst hne
        go_wp2_with (fail)
        exact ⟨⟨k+1,by omega,by omega,rfl,hid (fun k' h1 h2 h3=>absurd rfl h3),HG⟩,by simp [intOf];omega⟩
       ·have hie:l.isEmpty=false:=by cases l with
         | nil=>exact absurd rfl hne
         | cons _ _=>rfl
        have HNE:=hid hne
        clear hne
        go_wp2_with (fail)
        refine HOF.out.mono ?_
        rintro e w3 ⟨rfl,hb⟩
        have HB:=hid (Grows.trans HG.out hb)
        obtain ⟨R,hR⟩:∃ R,ofP (k:Int) X=R:=⟨_,rfl⟩
        have HR:=hid hR
        rw [hR]
        clear hR hb
        by_cases hRl:R=l
        ·have hT:T=((k:Int),X,true):=by
          rw [←HT.out,Zez l (k:Int) X HNE.out (by rw [HR.out];exact hRl)]
          rfl
         have HTT:=hid hT
         subst hRl
         clear hT
         go_wp2_with (fail)
         go_ret3
         rw [HTT.out]
         exact ⟨rfl,HB.out⟩
        ·have HRL:=hid hRl
         have hRb:(R==l)=false:=by simpa using hRl
         clear hRl
         go_wp2_with (fail)
         refine ⟨⟨k+1,by omega,by omega,rfl,hid (fun k' h1 h2 h3=>?_),HB⟩,by simp [intOf];omega⟩
         by_cases hkk:k'=k
         ·subst hkk
          rw [HIF.out,HR.out]
          exact HRL.out
         ·exact HNO.out k' h1 (by omega) h3
      ·have h3:(2:Int) < (k:Int):=by omega
       have HOF:=hid (Zcj (k:Int) 0 wr)
       have hif:(if k≤2 then X else 0)=0:=if_neg hk2
       have HIF:=hid hif
       clear hif
       by_cases hne:l=[]
       ·subst hne
        go_wp2_with (fail)
        exact ⟨⟨k+1,by omega,by omega,rfl,hid (fun k' h1 h2 h3=>absurd rfl h3),HG⟩,by simp [intOf];omega⟩
       ·have hie:l.isEmpty=false:=by cases l with
         | nil=>exact absurd rfl hne
         | cons _ _=>rfl
        have HNE:=hid hne
        clear hne
        go_wp2_with (fail)
        refine HOF.out.mono ?_
        rintro e w3 ⟨rfl,hb⟩
        have HB:=hid (Grows.trans HG.out hb)
        obtain ⟨R,hR⟩:∃ R,ofP (k:Int) 0=R:=⟨_,rfl⟩
        have HR:=hid hR
        rw [hR]
        clear hR hb
        by_cases hRl:R=l
        ·have hT:T=((k:Int),0,true):=by
          rw [←HT.out,Zez l (k:Int) 0 HNE.out (by rw [HR.out];exact hRl)]
          rfl
         have HTT:=hid hT
         subst hRl
         clear hT
         go_wp2_with (fail)
         go_ret3
         rw [HTT.out]
         exact ⟨rfl,HB.out⟩
        ·have HRL:=hid hRl
         have hRb:(R==l)=false:=by simpa using hRl
         clear hRl
         go_wp2_with (fail)
         refine ⟨⟨k+1,by omega,by omega,rfl,hid (fun k' h1 h2 h3=>?_),HB⟩,by simp [intOf];omega⟩
         by_cases hkk:k'=k
         ·subst hkk
          rw [HIF.out,HR.out]
          exact HRL.out
         ·exact HNO.out k' h1 (by omega) h3
     ·obtain rfl:k=5:=by omega
      have hT:T=(0,0,false):=by
       rw [←HT.out]
       cases hp:parseP l with
       | none=>rfl
       | some p =>
         exfalso
         obtain ⟨kk,nn⟩:=p
         obtain ⟨q1,q2,q3,q4,q5,q6⟩:=Zci l kk nn hp
         refine HNO.out kk.toNat (by omega) (by omega) q6 ?_
         rw [show ((kk.toNat:Nat):Int)=kk by omega]
         by_cases hkk:kk.toNat≤2
         ·rw [if_pos hkk,HXX.out,Zqq l kk nn hp (by omega)]
          exact Zdi l kk nn hp
         ·rw [if_neg hkk,←q5 (by omega)]
          exact Zdi l kk nn hp
      have HTT:=hid hT
      clear hT
      go_wp2_with (fail)
      go_ret3
      rw [HTT.out]
      exact ⟨rfl,HG.out⟩
end Go.Proofs.YtkelafkbmnjpeaaGreat
