import Derived.Test.YtkelafkbmnjpeaaGreatRcLocs
import Derived.Test.YtkelafkbmnjpeaaGreatMG14
set_option linter.unusedSimpArgs false
set_option linter.unusedVariables false
set_option maxHeartbeats 8000000
set_option maxRecDepth 100000
namespace Go.Proofs.YtkelafkbmnjpeaaGreat
open Go.RowKit

theorem Zkd (l:List UInt8):l=[]↔l.length < 1:=by
 rw [←List.length_eq_zero_iff]
 omega
theorem Zke (kd:Int) (ks:List UInt8) (id no size:Int) (LA:Option Addr) (ln lc:Nat) (BA:Option Addr) (bn bc:Nat) (ls:List Lc) (bs:List UInt8) (w:World) (hin:RcIn w LA ln lc BA bn bc (⟨kd,ks,id,no,size,ls,bs⟩:Rc)) :
 Calls Tryz.prog 43 #[.agg #[.int .i64 kd,.string ⟨ks.toArray⟩,.int .i64 id,.int .i64 no,.int .i64 size,.slice LA ln lc,.slice BA bn bc]] w fun e w'=>e=.returned (.bool (decide (Zq (⟨kd,ks,id,no,size,ls,bs⟩:Rc))))∧Below w.heap.size w w':=by
 have hl1:=hin.locs.len
 have hl2:=hin.sl.len
 dsimp only at hl1 hl2
 have hss:=Y5 ks
 have HL:=Lib.hid hin.locs
 obtain ⟨q,hq⟩:∃ q,decide ((1≤size∧size≤65536)∧Yu ls size)=q:=⟨_,rfl⟩
 obtain ⟨p,hp⟩:∃ p,decide (Zq (⟨kd,ks,id,no,size,ls,bs⟩:Rc))=p:=⟨_,rfl⟩
 have hp':Zq (⟨kd,ks,id,no,size,ls,bs⟩:Rc)↔p=true:=by rw [←hp,decide_eq_true_eq]
 have hq':((1≤size∧size≤65536)∧Yu ls size)↔q=true:=by rw [←hq,decide_eq_true_eq]
 unfold Zq Jm Zbq Y4 Zbr Bare KeyOk IdOk at hp'
 dsimp only at hp'
 rw [hp]
 have HQ:=Lib.hid hq
 have HP:=Lib.hid (And.intro hp' hq')
 have HS:=Lib.hid (And.intro hl1 (And.intro hl2 hss))
 clear hin hp hp' hq hq' hl1 hl2

 by_cases h1:kd=1
 ·subst h1
  go_enter Tryz.func43,Tryz.ntmps43
  go_wp2_with (first
   | (go_at_call 90
      refine (J2 _ _ _ _ ls _ (HL.out.grow (Zb _ _))).mono ?_
      rintro e w1 ⟨rfl,rfl⟩
      rw [HQ.out])
   | go_in)
  all_goals
   go_ret
   refine ⟨Zm ?_,Zb _ _⟩
   rw [Bool.eq_iff_iff]
   refine Iff.trans ?_ HP.out.1
   obtain ⟨g3,g4,g5⟩:=HS.out
   rw [g3,g4]
   have hq2:=HP.out.2
   clear HP HL HQ HS
   simp [Je,-Nat.lt_one_iff,Y5,-List.length_eq_zero_iff,Zkd] at *
   first
    | omega
    | (cases q <;> by_cases LO:Yu ls size <;> simp [LO] at*<;> omega)

 by_cases h2:kd=2
 ·subst h2
  go_enter Tryz.func43,Tryz.ntmps43
  go_wp2_with (first
   | (go_at_call 90
      refine (J2 _ _ _ _ ls _ (HL.out.grow (Zb _ _))).mono ?_
      rintro e w1 ⟨rfl,rfl⟩
      rw [HQ.out])
   | go_in)
  all_goals
   go_ret
   refine ⟨Zm ?_,Zb _ _⟩
   rw [Bool.eq_iff_iff]
   refine Iff.trans ?_ HP.out.1
   obtain ⟨g3,g4,g5⟩:=HS.out
   rw [g3,g4]
   have hq2:=HP.out.2
   clear HP HL HQ HS
   simp [Je,-Nat.lt_one_iff,Y5,-List.length_eq_zero_iff,Zkd] at *
   first
    | omega
    | (cases q <;> by_cases LO:Yu ls size <;> simp [LO] at*<;> omega)

 by_cases h3:kd=3
 ·subst h3
  go_enter Tryz.func43,Tryz.ntmps43
  go_wp2_with (first
   | (go_at_call 90
      refine (J2 _ _ _ _ ls _ (HL.out.grow (Zb _ _))).mono ?_
      rintro e w1 ⟨rfl,rfl⟩
      rw [HQ.out])
   | go_in)
  all_goals
   go_ret
   refine ⟨Zm ?_,Zb _ _⟩
   rw [Bool.eq_iff_iff]
   refine Iff.trans ?_ HP.out.1
   obtain ⟨g3,g4,g5⟩:=HS.out
   rw [g3,g4]
   have hq2:=HP.out.2
   clear HP HL HQ HS
   simp [Je,-Nat.lt_one_iff,Y5,-List.length_eq_zero_iff,Zkd] at *
   first
    | omega
    | (cases q <;> by_cases LO:Yu ls size <;> simp [LO] at*<;> omega)

 by_cases h4:kd=4
 ·subst h4
  go_enter Tryz.func43,Tryz.ntmps43
  go_wp2_with (first
   | (go_at_call 90
      refine (J2 _ _ _ _ ls _ (HL.out.grow (Zb _ _))).mono ?_
      rintro e w1 ⟨rfl,rfl⟩
      rw [HQ.out])
   | go_in)
  all_goals
   go_ret
   refine ⟨Zm ?_,Zb _ _⟩
   rw [Bool.eq_iff_iff]
   refine Iff.trans ?_ HP.out.1
   obtain ⟨g3,g4,g5⟩:=HS.out
   rw [g3,g4]
   have hq2:=HP.out.2
   clear HP HL HQ HS
   simp [Je,-Nat.lt_one_iff,Y5,-List.length_eq_zero_iff,Zkd] at *
   first
    | omega
    | (cases q <;> by_cases LO:Yu ls size <;> simp [LO] at*<;> omega)


 have e1:(kd==1)=false:=by simpa using h1
 have e2:(kd==2)=false:=by simpa using h2
 have e3:(kd==3)=false:=by simpa using h3
 have e4:(kd==4)=false:=by simpa using h4
 go_enter Tryz.func43,Tryz.ntmps43
 go_wp2_with (first
  | (go_at_call 90
     refine (J2 _ _ _ _ ls _ (HL.out.grow (Zb _ _))).mono ?_
     rintro e w1 ⟨rfl,rfl⟩
     rw [HQ.out])
  | go_in)
 all_goals
  go_ret
  refine ⟨Zm ?_,Zb _ _⟩
  rw [Bool.eq_iff_iff]
  refine Iff.trans ?_ HP.out.1
  obtain ⟨g3,g4,g5⟩:=HS.out
  rw [g3,g4]
  have hq2:=HP.out.2
  clear HP HL HQ HS
  simp [Je,-Nat.lt_one_iff,Y5,-List.length_eq_zero_iff,Zkd] at *
  first
   | omega
   | (cases q <;> by_cases LO:Yu ls size <;> simp [LO] at*<;> omega)

end Go.Proofs.YtkelafkbmnjpeaaGreat
