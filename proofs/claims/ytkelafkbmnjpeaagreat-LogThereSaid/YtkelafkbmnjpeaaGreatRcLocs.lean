import Derived.Test.YtkelafkbmnjpeaaGreatMG11
import Derived.Test.YtkelafkbmnjpeaaGreatMG12
set_option linter.unusedSimpArgs false
set_option linter.unusedVariables false
set_option maxHeartbeats 4000000
set_option maxRecDepth 100000
namespace Go.Proofs.YtkelafkbmnjpeaaGreat
open Go.Lib (hid)
open Go.RowKit

theorem Zh7 (kd:Int) (s:ByteArray) (id no size:Int) (LA:Option Addr) (ln lc:Nat) (BA:Option Addr) (bn bc:Nat) (ls:List Lc) (w:World) (hl:Locs w LA ln lc ls) :
 Calls Tryz.prog 277 #[.agg #[.int .i64 kd,.string s,.int .i64 id,.int .i64 no,.int .i64 size,.slice LA ln lc,.slice BA bn bc]] w fun e w'=>e=.returned (.bool (decide (Yu ls size)))∧Below w.heap.size w w':=by
 have hlen:=hl.len
 have HL:=hid hl
 clear hl
 by_cases h512:512 < ln
 ·have h1:(512:Int) < (ln:Int):=by omega
  go_enter Tryz.func277,Tryz.ntmps277
  go_wp2
  go_ret
  exact ⟨Zm (decide_eq_false fun h=>by have:=h.1;omega).symm,Zb _ _⟩
 ·have h1:¬ (512:Int) < (ln:Int):=by omega
  go_enter Tryz.func277,Tryz.ntmps277
  go_wp2
  go_loopw [3,13] (fun t i wr=>∃ (k:Nat) (z:Int),k≤ln∧i=.int .i64 (k:Nat)∧t=.int .i64 z∧Hid (Seen ls k z)∧Hid (Grows (w.alloc (.cells #[.int .i64 kd,.string s,.int .i64 id,.int .i64 no,.int .i64 size,.slice LA ln lc,.slice BA bn bc] 196)) wr)) (fun _ i _=>ln - (intOf i).toNat)
  case atStart=>exact ⟨0,0,by omega,rfl,rfl,hid (Seen.start _),hid (Grows.refl _)⟩
  case round =>
   obtain ⟨k,z,hk,rfl,rfl,HS,HG⟩:=hrel
   have hw:=HG.out.whole (Whole.made w 196 #[.int .i64 kd,.string s,.int .i64 id,.int .i64 no,.int .i64 size,.slice LA ln lc,.slice BA bn bc])
   have c4:=hw.cell 4
   simp only [Gt] at c4
   clear hw
   by_cases hlt:k < ln
   ·obtain ⟨ad,rfl,p0,p1,p2⟩:=(HL.out.grow (Grows.trans (Zb w _) HG.out)).spot hlt
    have hz:=HS.out.bound
    have hnx:=HS.out.next (by omega) (k:=k)
    have hill:=Seen.ill (ls:=ls) (k:=k) (by omega)
    have k0:(0:Int)≤(k:Int):=by omega
    have k1:(k:Int) < (ln:Int):=by omega
    generalize ls.getD k (0,0,0)=l at *
    obtain ⟨l0,l1,l2⟩:=l
    dsimp only at p0 p1 p2 hnx
    have q0:=p0 wr (Grows.refl _)
    have q1:=p1 wr (Grows.refl _)
    have q2:=p2 wr (Grows.refl _)
    have HN:=hid (And.intro hnx hill)
    clear p0 p1 p2 hnx hill
    by_cases hok:LocOk (l0,l1,l2)
    ·obtain ⟨⟨a1,a2⟩,⟨a3,a4⟩,a5,a6⟩:=hok
     dsimp only at a1 a2 a3 a4 a5 a6
     have hwr:IntKind.i64.wrap (z+l2)=z+l2:=IntWalk.i64_in _ ⟨by omega,by omega⟩
     have hw64:wrap64 (z+l2)=z+l2:=by rw [←IntWalk.i64_left];exact hwr
     go_wp2
     go_roundw
     case rel=>exact ⟨k+1,z+l2,by omega,by go_num,rfl,hid (HN.out.1 ⟨⟨a1,a2⟩,⟨a3,a4⟩,a5,a6⟩),hid (Grows.trans HG.out (Zb _ _))⟩
     case measure=>simp [intOf];omega
    ·have HO:=hid hok
     clear hok
     go_wp2
     all_goals first
      | (go_ret
         exact ⟨Zm (decide_eq_false (HN.out.2 HO.out size)).symm,Below.trans (Zb w _) (Below.mono (Grows.trans HG.out (Zb _ _)) (Zcx _ _))⟩)
      | (exfalso
         simp only [Bool.not_eq_false',decide_eq_true_eq] at *
         refine HO.out ⟨⟨?_,?_⟩,⟨?_,?_⟩,?_,?_⟩ <;> dsimp only <;> omega)
   ·obtain rfl:k=ln:=by omega
    have hall:=HS.out
    have hdec:(z==size)=decide (Yu ls size):=by
     rw [Bool.eq_iff_iff,decide_eq_true_eq,beq_iff_eq]
     rw [←hlen] at hall
     exact (hall.all (by omega) size).symm
    have HD:=hid hdec
    clear hdec hall
    go_wp2
    go_ret
    exact ⟨Zm HD.out,Below.trans (Zb w _) (Below.mono HG.out (Zcx _ _))⟩


theorem J2 (size:Int) (LA:Option Addr) (ln lc:Nat) (ls:List Lc) (w:World) (hl:Locs w LA ln lc ls) :
 Calls Tryz.prog 90 #[.slice LA ln lc,.int .i64 size] w fun e w'=>e=.returned (.bool (decide ((1≤size∧size≤65536)∧Yu ls size)))∧w=w':=by
 have hlen:=hl.len
 have HL:=hid hl
 obtain ⟨q,hq⟩:∃ q,decide ((1≤size∧size≤65536)∧Yu ls size)=q:=⟨_,rfl⟩
 rw [hq]
 have HQ:=hid hq
 clear hl hq
 by_cases h512:ln≤512∧1≤size∧size≤65536
 ·obtain ⟨h1,h2,h3⟩:=h512
  have g1:¬ (512:Int) < (ln:Int):=by omega
  have g2:¬ size < 1:=by omega
  have g3:¬ (65536:Int) < size:=by omega
  go_enter Tryz.func90,Tryz.ntmps90
  go_wp2
  go_loop [5,6] (fun t i=>∃ (k:Nat) (z:Int),k≤ln∧i=.int .i64 (k:Nat)∧t=.int .i64 z∧Hid (Seen ls k z)) (fun _ i=>ln - (intOf i).toNat)
  case atStart=>exact ⟨0,0,by omega,rfl,rfl,hid (Seen.start _)⟩
  case round =>
   obtain ⟨k,z,hk,rfl,rfl,HS⟩:=hrel
   by_cases hlt:k < ln
   ·obtain ⟨ad,rfl,p0,p1,p2⟩:=HL.out.spot hlt
    have hz:=HS.out.bound
    have hnx:=HS.out.next (by omega) (k:=k)
    have hill:=Seen.ill (ls:=ls) (k:=k) (by omega)
    have k0:(0:Int)≤(k:Int):=by omega
    have k1:(k:Int) < (ln:Int):=by omega
    generalize ls.getD k (0,0,0)=l at *
    obtain ⟨l0,l1,l2⟩:=l
    dsimp only at p0 p1 p2 hnx
    have q0:=p0 w (Grows.refl _)
    have q1:=p1 w (Grows.refl _)
    have q2:=p2 w (Grows.refl _)
    have HN:=hid (And.intro hnx hill)
    clear p0 p1 p2 hnx hill
    by_cases hok:LocOk (l0,l1,l2)
    ·obtain ⟨⟨a1,a2⟩,⟨a3,a4⟩,a5,a6⟩:=hok
     dsimp only at a1 a2 a3 a4 a5 a6
     have hwr:IntKind.i64.wrap (z+l2)=z+l2:=IntWalk.i64_in _ ⟨by omega,by omega⟩
     have hw64:wrap64 (z+l2)=z+l2:=by rw [←IntWalk.i64_left];exact hwr
     go_wp2
     go_round
     case rel=>exact ⟨k+1,z+l2,by omega,by go_num,rfl,hid (HN.out.1 ⟨⟨a1,a2⟩,⟨a3,a4⟩,a5,a6⟩)⟩
     case measure=>simp [intOf];omega
    ·have HO:=hid hok
     clear hok
     go_wp2
     all_goals first
      | (go_ret
         exact ⟨Zm ((decide_eq_false (fun h=>HN.out.2 HO.out size h.2)).symm.trans HQ.out),rfl⟩)
      | (exfalso
         try simp only [decide_eq_false_iff_not,decide_eq_true_eq] at *
         refine HO.out ⟨⟨?_,?_⟩,⟨?_,?_⟩,?_,?_⟩ <;> dsimp only <;> omega)
   ·obtain rfl:k=ln:=by omega
    have hall:=HS.out
    have hdec:(z==size)=decide ((1≤size∧size≤65536)∧Yu ls size):=by
     rw [Bool.eq_iff_iff,decide_eq_true_eq,beq_iff_eq]
     rw [←hlen] at hall
     rw [hall.all (by omega) size]
     omega
    have HD:=hid hdec
    clear hdec hall
    go_wp2
    go_ret
    exact ⟨Zm (HD.out.trans HQ.out),rfl⟩
 ·have hno:¬ ((1≤size∧size≤65536)∧Yu ls size):=fun h=>h512 ⟨by have:=h.2.1;omega,h.1⟩
  have HN:=hid hno
  have HO:=hid h512
  clear hno h512
  go_enter Tryz.func90,Tryz.ntmps90
  go_wp2
  all_goals first
   | (go_ret
      exact ⟨Zm ((decide_eq_false HN.out).symm.trans HQ.out),rfl⟩)
   | (exfalso
      try simp only [decide_eq_false_iff_not,decide_eq_true_eq] at *
      refine HO.out ⟨?_,?_,?_⟩ <;> omega)
end Go.Proofs.YtkelafkbmnjpeaaGreat
