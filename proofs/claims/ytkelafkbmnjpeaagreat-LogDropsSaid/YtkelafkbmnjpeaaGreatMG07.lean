/-
  Texts that the statements lean on, one behind the other.
-/
import Derived.Test.YtkelafkbmnjpeaaGreatMG06
import Derived.Laws.CopyOwn
import Derived.Shelf.SlIter.Nil
import Derived.Shelf.SortM.Plain
import Derived.Shelf.SortM.SortNone
import Derived.Shelf.SlMaps.Clone
import Derived.Test.YtkelafkbmnjpeaaGreatProg
set_option maxHeartbeats 8000000
set_option maxRecDepth 100000
namespace Go.Proofs.YtkelafkbmnjpeaaGreat
open Go.Lib (hid)
open Go.RowKit Go.Maps Go.WideMaps
attribute [local irreducible] Go.wpQuiet
section
variable {w : World} {d : Nat} {own : Nat → Prop} {G : Geo} {m : Dk}
theorem Zol (w : World) (n to : Nm) (h : DkAt w d own G m) (hF : DkFit m) (hn : n.length ≤ 1000000) (ht : to.length ≤ 1000000) : Calls Tryz.prog 202 #[.pointer (some ⟨d, 0, none⟩), .string ⟨n.toArray⟩, .string ⟨to.toArray⟩] w fun e w' => Did w d own (m.rename n to) e w' := by
  have hg : Grows w (((w.alloc (.cells #[.pointer (some ⟨d, 0, none⟩)] 24)).alloc (.cells #[.string ⟨n.toArray⟩] 9)).alloc (.cells #[.string ⟨to.toArray⟩] 9)) := ((Za _ _).trans (Za _ _)).trans (Za _ _)
  have ha : Whole (((w.alloc (.cells #[.pointer (some ⟨d, 0, none⟩)] 24)).alloc (.cells #[.string ⟨n.toArray⟩] 9)).alloc (.cells #[.string ⟨to.toArray⟩] 9)) w.heap.size 24 #[ptrV d] := ((Whole.made _ _ _).alloc _).alloc _
  have hb : Whole (((w.alloc (.cells #[.pointer (some ⟨d, 0, none⟩)] 24)).alloc (.cells #[.string ⟨n.toArray⟩] 9)).alloc (.cells #[.string ⟨to.toArray⟩] 9)) (w.heap.size + 1) 9 #[strB n] := by
    have := (Whole.made (w.alloc (.cells #[.pointer (some ⟨d, 0, none⟩)] 24)) 9 #[strB n]).alloc (.cells #[.string ⟨to.toArray⟩] 9)
    rwa [World.size_alloc] at this
  have hc : Whole (((w.alloc (.cells #[.pointer (some ⟨d, 0, none⟩)] 24)).alloc (.cells #[.string ⟨n.toArray⟩] 9)).alloc (.cells #[.string ⟨to.toArray⟩] 9)) (w.heap.size + 1 + 1) 9 #[strB to] := by
    have := Whole.made ((w.alloc (.cells #[.pointer (some ⟨d, 0, none⟩)] 24)).alloc (.cells #[.string ⟨n.toArray⟩] 9)) 9 #[strB to]
    rwa [World.size_alloc, World.size_alloc] at this
  have hnm : n.length ≤ maxLen := by unfold maxLen; omega
  have h0 := h.grow hg
  have HDK := hid (And.intro h hg)
  unfold Dk.rename
  cases hd : m.down with
  | true =>
    have HFI := hid (Zb2 _ h0 hnm hd)
    rw [if_pos rfl]
    clear h hF ha hb hc hn hnm h0 hg hd ht
    go_enter Tryz.func202, Tryz.ntmps202
    go_wp2_with (fail)
    refine HFI.out.mono ?_
    rintro e w2 ⟨rfl, rfl⟩
    go_wp2_with (fail)
    go_ret
    exact Did.none HDK.out.1 HDK.out.2 82
  | false =>
  rw [if_neg (by decide)]
  cases hf : Dir.find n m.names with
  | none =>
    have HFI := hid (Zb3 _ h0 hnm hd hf)
    dsimp only
    clear h hF ha hb hc hn hnm h0 hg hd hf ht
    go_enter Tryz.func202, Tryz.ntmps202
    go_wp2_with (fail)
    refine HFI.out.mono ?_
    rintro e w2 ⟨rfl, rfl⟩
    go_wp2_with (fail)
    go_ret
    exact Did.none HDK.out.1 HDK.out.2 3
  | some f =>
  have HFI := hid (Zb4 _ h0 hnm hd hf)
  dsimp only
  have HR := hid (Zki to)
  cases hr : right to with
  | false =>
    rw [hr] at HR
    rw [if_pos (.inl rfl)]
    clear h hF ha hb hc hn hnm h0 hg hd hf hr ht
    go_enter Tryz.func202, Tryz.ntmps202
    go_wp2_with (fail)
    refine HFI.out.mono ?_
    rintro e w2 ⟨rfl, rfl⟩
    go_wp2_with (fail)
    refine (HR.out _).mono ?_
    rintro e w2 ⟨rfl, rfl⟩
    go_wp2_with (fail)
    go_ret
    exact Did.none HDK.out.1 HDK.out.2 1
  | true =>
  rw [hr] at HR
  have HT := hid (Za6 _ h0 hF.cut hF.fail 264 #[] #[.pointer (some ⟨w.heap.size, 0, none⟩), .pointer (some ⟨w.heap.size + 1 + 1, 0, none⟩), .pointer (some ⟨w.heap.size + 1, 0, none⟩)] (fun args w => by kernel_rfl) (Dk.doRename n to)
    fun _ _ hx w1 h1 s1 => by
      have hl := h.top.lt
      refine Zqc w1 h1 (ha.same (s1.same _ ha.lt (by omega))) (hc.same (s1.same _ hc.lt (by omega))) (hb.same (s1.same _ hb.lt (by omega))) ?_ hn ht hF.pend hF.names
      rintro k (rfl | rfl | rfl)
      · exact ⟨by omega, fun e => by have := h.rest.lt _ e; omega⟩
      · exact ⟨by omega, fun e => by have := h.rest.lt _ e; omega⟩
      · exact ⟨by omega, fun e => by have := h.rest.lt _ e; omega⟩)
  by_cases he : to = n
  · rw [if_pos (.inr he)]
    subst he
    clear h hF ha hb hc hn hnm h0 hg hd hf hr ht HT
    go_enter Tryz.func202, Tryz.ntmps202
    go_wp2_with (fail)
    refine HFI.out.mono ?_
    rintro e w2 ⟨rfl, rfl⟩
    go_wp2_with (fail)
    refine (HR.out _).mono ?_
    rintro e w2 ⟨rfl, rfl⟩
    go_wp2_with (fail)
    go_ret
    exact Did.none HDK.out.1 HDK.out.2 1
  · rw [if_neg (by rintro (e | e); · cases e
                   · exact he e)]
    have hs : (to == n) = false := by rw [beq_eq_false_iff_ne]; exact he
    clear h hF ha hb hc hn hnm h0 hg hd hf hr ht he
    go_enter Tryz.func202, Tryz.ntmps202
    go_wp2_with (fail)
    refine HFI.out.mono ?_
    rintro e w2 ⟨rfl, rfl⟩
    go_wp2_with (fail)
    refine (HR.out _).mono ?_
    rintro e w2 ⟨rfl, rfl⟩
    go_wp2_with (fail)
    refine HT.out.mono ?_
    rintro e w4 ⟨rfl, h4⟩
    have H4 := hid h4
    clear h4 HT
    go_wp2_with (fail)
    go_ret
    exact Did.behind HDK.out.2 ⟨rfl, H4.out⟩
end
def DkNew (w : World) (d : Nat) (w' : World) (m : Dk) : Prop := ∃ own G, DkAt w' d own G m ∧ w.heap.size ≤ d ∧ (∀ k, own k → w.heap.size ≤ k) ∧ Grows w w'
theorem Zxc (w : World) (x : Int) : DkNew w (w.heap.size + 1 + 1) (((w.alloc (.map #[] 0)).alloc (.map #[] 0)).alloc (.cells #[.int .i64 (min (max x 0) 67108864), .int .i64 0, .int .i64 0, .map (some w.heap.size), .map (some (w.heap.size + 1)), .slice none 0 0, .int .i64 0, .int .i64 (-1), .int .i64 (-1), .bool false] 89)) (Dk.new x) := by
  have m1 := (World.ownsMap_made w Tryz.prog 9 (ptrR 0 (fun _ => 0))).alloc (.map #[] 0) |>.alloc (.cells #[.int .i64 (min (max x 0) 67108864), .int .i64 0, .int .i64 0, .map (some w.heap.size), .map (some (w.heap.size + 1)), .slice none 0 0, .int .i64 0, .int .i64 (-1), .int .i64 (-1), .bool false] 89)
  have m2 := (World.ownsMap_made (w.alloc (.map #[] 0)) Tryz.prog 9 (ptrR 0 (fun _ => 0))).alloc (.cells #[.int .i64 (min (max x 0) 67108864), .int .i64 0, .int .i64 0, .map (some w.heap.size), .map (some (w.heap.size + 1)), .slice none 0 0, .int .i64 0, .int .i64 (-1), .int .i64 (-1), .bool false] 89)
  have m3 := Whole.made ((w.alloc (.map #[] 0)).alloc (.map #[] 0)) 89 #[.int .i64 (min (max x 0) 67108864), .int .i64 0, .int .i64 0, .map (some w.heap.size), .map (some (w.heap.size + 1)), .slice none 0 0, .int .i64 0, .int .i64 (-1), .int .i64 (-1), .bool false]
  rw [World.size_alloc] at m2 m3
  rw [World.size_alloc] at m3
  have g1 : Grows w (((w.alloc (.map #[] 0)).alloc (.map #[] 0)).alloc (.cells #[.int .i64 (min (max x 0) 67108864), .int .i64 0, .int .i64 0, .map (some w.heap.size), .map (some (w.heap.size + 1)), .slice none 0 0, .int .i64 0, .int .i64 (-1), .int .i64 (-1), .bool false] 89)) := ((Za _ _).trans (Za _ _)).trans (Za _ _)
  refine ⟨fun k => k = w.heap.size ∨ k = w.heap.size + 1, ⟨w.heap.size, w.heap.size + 1, .slice none 0 0, [], fun _ => 0, fun _ => .slice none 0 0⟩, ⟨?_, m3, by omega⟩, by omega, by omega, g1⟩
  constructor
  · rintro k (rfl | rfl)
    · exact m1.lt
    · exact m2.lt
  · exact m1
  · exact .inl rfl
  · exact m2
  · exact .inr rfl
  · show w.heap.size ≠ w.heap.size + 1
    omega
  · exact ⟨rfl, .inl ⟨rfl, rfl⟩⟩
  · intro k hk; cases hk
  · intro i v c h1 h2; simp at h1
  · intro i j hi; exact absurd hi (Nat.not_lt_zero _)
  · intro i hi; exact absurd hi (Nat.not_lt_zero _)
  · intro i hi; exact absurd hi (Nat.not_lt_zero _)
  · intro i hi; exact absurd hi (Nat.not_lt_zero _)
  · intro i k hi; exact absurd hi (Nat.not_lt_zero _)
  · intro i j k hi; exact absurd hi (Nat.not_lt_zero _)
theorem Zf8 (w : World) (x : Int) : Calls Tryz.prog 10 #[.int .i64 x] w fun e w' => ∃ d, e = .returned (.pointer (some ⟨d, 0, none⟩)) ∧ DkNew w d w' (Dk.new x) := by
  have HN := hid (Zxc w x)
  have hmm := @run_makeMap Tryz.prog
  go_enter Tryz.func10, Tryz.ntmps10
  go_wp2
  go_ret
  exact ⟨_, rfl, HN.out⟩
end Go.Proofs.YtkelafkbmnjpeaaGreat
set_option maxHeartbeats 8000000
set_option maxRecDepth 100000
namespace Go.Proofs.YtkelafkbmnjpeaaGreat
open Go.Lib (hid)
open Go.RowKit Go.Maps Go.WideMaps
def Zh1 (w:World) (r:Option (List UInt8)×Int) (e:Ending) (w':World):Prop :=
 match r.1 with
 | none=>e=.returned (.tuple #[.slice none 0 0,.int .i64 r.2])∧w=w'
 | some bs=>e=.returned (.tuple #[.slice (some ⟨w.heap.size,0,none⟩) bs.length bs.length,.int .i64 r.2])∧w'.ownsRow w.heap.size 5 1 (.slice (some ⟨w.heap.size,0,none⟩) bs.length bs.length) bs.length (bs.map byteV)∧Grows w w'
theorem Zwd (ad:Addr) (x j:Nat):ad.add (x+j)=(ad.add x).add j:=by
 unfold Addr.add
 by_cases hx:x=0
 ·subst hx;simp
 ·by_cases hj:j=0
  ·subst hj;simp
  ·simp [hx,hj,Nat.add_assoc]
theorem Zi7 {w3:World} {g K S C:Nat} {sp:Option Addr} {cur cs:List Value} (ty:TypeId) (hsz:(Tryz.prog.info? 5).map (·.size)=some 1) (hg:w3.heap[g]?=some (.cells cur.toArray 5 (0,0))) (hc:cs.length=K) (hS:K≤S) (hcur:cur.length=K)
 (hpos:0 < K→∃ ad,sp=some ad∧∀ (j:Nat) v,cs[j]?=some v→w3.cell? (ad.add j)=some v) (h1:∀ v∈cs,v.oneCell'=true) :
 ∃ w4,(Builtin.copy_ #[37,37] ty #[.slice (some ⟨g,0,none⟩) K K,.slice sp S C]).run Tryz.prog w3=.ok (goInt K) w4∧w4.heap[g]?=some (.cells (splice cur 0 cs).toArray 5 (0,0))∧Below g w3 w4:=by
 by_cases h0:K=0
 ·subst h0
  obtain rfl:cs=[]:=List.eq_nil_of_length_eq_zero hc
  exact ⟨w3,run_copy_none w3 _ _ ty 5 _ _ _ _ _ _ Tryz.underlying37 hsz (by simp),by simpa [splice] using hg,Below.refl _ _⟩
 ·obtain ⟨ad,rfl,hsrc⟩:=hpos (by omega)
  have hr:=run_copy_row (P:=Tryz.prog) w3 37 37 ty 5 g 0 K K ad S C cur.toArray 5 cs Tryz.underlying37 hsz hg (by rw [hc];exact (Nat.min_eq_right hS).symm) hsrc (by simp;omega) h1
  rw [hc] at hr
  refine ⟨_,hr,?_,Zfa (Below.refl _ _) (Nat.le_refl _) _⟩
  have:=setRow_heap w3 g cur.toArray (List.take 0 cur++cs++List.drop (0+K) cur).toArray 5 (0,0) hg
  rw [this]
  unfold splice
  rw [hc,List.append_assoc]
theorem Zdp (k:Nat):(madeCells (Value.int .u8 0).cells (k*1)).toList.length=k:=by simp [size_madeCells]
section
variable {w:World} {d:Nat} {own:Nat→Prop} {G:Geo} {m:Dk}
theorem Zts (w:World) (n:Nm) (x k:Int) (h:DkAt w d own G m) (hF:DkFit m) (hn:n.length≤maxLen) (hx:-9223372036854775808≤x∧x≤9223372036854775807) (hk:-9223372036854775808≤k∧k≤9223372036854775807) :
 Calls Tryz.prog 93 #[.pointer (some ⟨d,0,none⟩),.string ⟨n.toArray⟩,.int .i64 x,.int .i64 k] w fun e w'=>Zh1 w (m.read n x k) e w':=by
 unfold Dk.read
 cases hd:m.down with
 | true =>
   have HFI:=hid (Zb2 w h hn hd)
   rw [if_pos rfl]
   clear h hF hn hd hx hk
   go_enter Tryz.func93,Tryz.ntmps93
   go_wp2_with (fail)
   refine HFI.out.mono ?_
   rintro e w2 ⟨rfl,rfl⟩
   go_wp2_with (fail)
   all_goals (go_ret2;exact ⟨rfl,rfl⟩)
 | false =>
 rw [if_neg (by decide)]
 cases hf:Dir.find n m.names with
 | none =>
   have HFI:=hid (Zb3 w h hn hd hf)
   dsimp only
   clear h hF hn hd hf hx hk
   go_enter Tryz.func93,Tryz.ntmps93
   go_wp2_with (fail)
   refine HFI.out.mono ?_
   rintro e w2 ⟨rfl,rfl⟩
   go_wp2_with (fail)
   all_goals (go_ret2;exact ⟨rfl,rfl⟩)
 | some f =>
 have HFI:=hid (Zb4 w h hn hd hf)
 have hlt:=h.find_lt hn hf
 obtain ⟨A0,c0,hA0,hbare⟩:=Zo (h.rest.rows f hlt)
 have hc:=h.rest.cells f hlt
 have hrow:=h.rest.rows f hlt
 rw [hA0] at hc hrow
 have hl:=(hF.bytes f hlt).1
 have c1:w.cell? ⟨G.loc f,1,none⟩=some (.slice A0 (m.files f).bytes.length c0):=hc.cell 1
 have hcap:(m.files f).bytes.length≤c0:=by
  rcases hrow.2 with ⟨e,e2⟩ | ⟨g,cap,cur,e,_,_,e2,_⟩
  ·injection e with _ e _;omega
  ·injection e with _ _ e;omega
 have HR:=hid hrow
 have HBARE:=hid hbare
 dsimp only
 clear h hF hn hd hf hA0 hc hrow hlt hbare
 generalize (m.files f).bytes=bs at *
 generalize hnn:bs.length=nn at *
 have HN:=hid hnn
 clear hnn
 generalize G.loc f=lf at *
 by_cases b1:x < 0
 ·rw [if_pos (.inl b1)]
  clear hx hk HR HBARE hcap
  go_enter Tryz.func93,Tryz.ntmps93
  go_wp2_with (fail)
  refine HFI.out.mono ?_
  rintro e w2 ⟨rfl,rfl⟩
  go_wp2_with (fail)
  all_goals (go_ret2;exact ⟨rfl,rfl⟩)
 by_cases b2:k < 0
 ·rw [if_pos (.inr (.inl b2))]
  clear hx hk HR HBARE hcap
  go_enter Tryz.func93,Tryz.ntmps93
  go_wp2_with (fail)
  refine HFI.out.mono ?_
  rintro e w2 ⟨rfl,rfl⟩
  go_wp2_with (fail)
  all_goals (go_ret2;exact ⟨rfl,rfl⟩)
 by_cases b3:(nn:Int) < x
 ·rw [if_pos (.inr (.inr (.inl b3)))]
  clear hx hk HR HBARE hcap
  go_enter Tryz.func93,Tryz.ntmps93
  go_wp2_with (fail)
  refine HFI.out.mono ?_
  rintro e w2 ⟨rfl,rfl⟩
  go_wp2_with (fail)
  all_goals (go_ret2;exact ⟨rfl,rfl⟩)
 have w1:IntKind.i64.wrap ((nn:Int) - x)=nn - x:=IntWalk.i64_in _ (by omega)
 by_cases b4:(nn:Int) - x < k
 ·rw [if_pos (.inr (.inr (.inr b4)))]
  clear hx hk HR HBARE hcap
  go_enter Tryz.func93,Tryz.ntmps93
  go_wp2_with (fail)
  refine HFI.out.mono ?_
  rintro e w2 ⟨rfl,rfl⟩
  go_wp2_with (fail)
  all_goals (go_ret2;exact ⟨rfl,rfl⟩)
 rw [if_neg (by rintro (e | e | e | e) <;> contradiction)]
 obtain ⟨X,rfl⟩:∃ X:Nat,x=X:=⟨x.toNat,by omega⟩
 obtain ⟨K,rfl⟩:∃ K:Nat,k=K:=⟨k.toNat,by omega⟩
 obtain ⟨ys,hys⟩:∃ ys,(bs.drop X).take K=ys:=⟨_,rfl⟩
 have hyl:ys.length=K:=by
  rw [←hys,List.length_take,List.length_drop,HN.out]
  omega
 have e1:((X:Int)).toNat=X:=by omega
 have e2:((K:Int)).toNat=K:=by omega
 rw [e1,e2,hys]
 have HY:=hid (And.intro hys hyl)
 unfold Zh1
 dsimp only
 rw [hyl]
 obtain ⟨i0,hi0,hz0,hz1,hz2⟩:=info_parts infoU8
 have HI:=hid (And.intro hi0 (And.intro hz0 (And.intro hz1 hz2)))
 have HIS:=hid (show (Tryz.prog.info? 5).map (·.size)=some 1 by rw [hi0];simp [hz1])
 clear hi0 hz0 hz1 hz2 hys e1 e2
 have q1:X≤nn:=by omega
 have q2:K≤nn - X:=by omega
 have q3:K≤1000000000:=by omega
 have HQ:=hid (And.intro q1 (And.intro q2 hcap))
 have src:∀ ad,A0=some ad→∀ w',Grows w w'→∀ j v,(ys.map byteV)[j]?=some v→w'.cell? (ad.add (X+j))=some v:=fun ad ea w' hg j v hv=>by
  have hr:=Row.owned HR.out
  have h1:(bs.map byteV)[X+j]?=some v:=by
   rw [←HY.out.1,List.map_take,List.map_drop] at hv
   rw [List.getElem?_take] at hv
   split at hv
   ·rwa [List.getElem?_drop] at hv
   ·cases hv
  obtain ⟨ad',e,hb,hcl⟩:=Row.spot hr _ v h1
  rw [ea] at e
  cases e
  rw [←hcl]
  refine World.cell?_of_block ?_
  rw [show (ad.add (X+j)).block=ad.block by unfold Addr.add;split <;> rfl]
  exact hg.block _ hb
 have HS:=hid src
 clear src hyl
 have fin:∀ w1 w2:World,w1.ownsRow w.heap.size 5 1 (.slice (some ⟨w.heap.size,0,none⟩) K K) K (madeCells (Value.int .u8 0).cells (K*1)).toList→w.grownBy w1 none→Below w.heap.size w1 w2→w2.heap[w.heap.size]?=some (.cells (splice (madeCells (Value.int .u8 0).cells (K*1)).toList 0 (ys.map byteV)).toArray 5 (0,0)) →
  w2.ownsRow w.heap.size 5 1 (.slice (some ⟨w.heap.size,0,none⟩) K K) K (ys.map byteV)∧Grows w w2:=fun w1 w2 hr hg hb hs=>by
  have hsp:splice (madeCells (Value.int .u8 0).cells (K*1)).toList 0 (ys.map byteV)=ys.map byteV:=by
   unfold splice
   rw [List.drop_eq_nil_of_le (by rw [Zdp,List.length_map,HY.out.2];omega)]
   simp
  rw [hsp] at hs
  refine ⟨⟨by rw [List.length_map,HY.out.2];omega,.inr ⟨w.heap.size,K,(ys.map byteV).toArray,rfl,Nat.le_refl _,hs,Nat.le_refl _,by unfold maxLen;omega,?_,?_⟩⟩,?_⟩
  ·rw [List.size_toArray,List.length_map,HY.out.2];omega
  ·rw [List.take_of_length_le]
   rw [Array.length_toList,List.size_toArray,List.length_map,HY.out.2];omega
  ·have h1:Grows w w1:=(Below.refl _ w).grown hg (Nat.le_refl _) (fun g e=>by cases e)
   exact Below.trans h1 hb
 have HFN:=hid fin
 clear fin
 have MK:∀ w1:World,w1.ownsRow w.heap.size 5 1 (.slice (some ⟨w.heap.size,0,none⟩) K K) K (madeCells (Value.int .u8 0).cells (K*1)).toList→w.grownBy w1 none→w1.heap[w.heap.size]?=some (.cells (madeCells (Value.int .u8 0).cells (K*1)).toList.toArray 5 (0,0))∧w1.cell? ⟨lf,1,none⟩=some (.slice A0 nn c0)∧∀ ad,A0=some ad→∀ j v,(ys.map byteV)[j]?=some v→w1.cell? ((ad.add X).add j)=some v:=fun w1 hr hg=>by
  refine ⟨?_,(((Below.refl _ w).grown hg (Nat.le_refl _) (fun g e=>by cases e)).cell (World.block_lt_of_cell? w _ c1)).trans c1,fun ad e j v hv=>by
  have:=HS.out ad e w1 ((Below.refl _ w).grown hg (Nat.le_refl _) (fun g e=>by cases e)) j v hv
  rwa [Zwd] at this⟩
  rcases hr.2 with ⟨e,_⟩ | ⟨g,cap,cur,e,_,hh,e3,_,e4,e5⟩
  ·injection e with e;cases e
  ·injection e with e _ e6
   injection e with e
   injection e with e
   subst e
   subst e6
   rw [hh,←e5,List.take_of_length_le (by rw [Array.length_toList,e4];omega)]
 have HMK:=hid MK
 clear MK
 have d0:¬ (X:Int) < 0:=b1
 cases A0 with
 | none =>
   obtain rfl:c0=0:=HBARE.out rfl
   obtain rfl:nn=0:=by omega
   obtain rfl:X=0:=by omega
   obtain rfl:K=0:=by omega
   go_enter Tryz.func93,Tryz.ntmps93
   go_wp2_with (fail)
   refine HFI.out.mono ?_
   rintro e w2 ⟨rfl,rfl⟩
   go_wp2_with (first
    | (at_make;refine wpList_make_full _ rfl _ _ 37 rfl w.heap.size 5 i0 (.int .u8 0) 1 Tryz.underlying37 HI.out.1 HI.out.2.1 HI.out.2.2.1 .i64 .i64 _ _ 0 rfl rfl rfl rfl (by rw [HI.out.2.2.2];omega) (by unfold maxLen;omega) (Nat.le_refl _) ?_;intro w3 hr3 hg3;have c3:=(HMK.out w3 hr3 hg3).2.1;have HR3:=hid hr3;have HG3:=hid hg3;clear hr3 hg3))
   obtain ⟨w4,hrun,hs4,hb4⟩:=Zi7 (K:=0) (S:=0) (C:=0) (sp:=none) 3 HIS.out (HMK.out w3 HR3.out HG3.out).1 (cs:=ys.map byteV) (by rw [List.length_map,HY.out.2]) (Nat.le_refl _) (Zdp 0) (fun h=>absurd h (Nat.lt_irrefl 0)) (Ja ys)
   have HS4:=hid hs4
   have HB4:=hid hb4
   clear hs4 hb4
   rw [hrun]
   simp only [Result.andThen]
   rw [Oper.upon_value]
   clear hrun
   go_wp2_with (fail)
   go_ret2
   obtain ⟨z1,z2⟩:=HFN.out w3 w4 HR3.out HG3.out HB4.out HS4.out
   exact ⟨rfl,z1,z2⟩
 | some ad =>
   by_cases hcx:c0=X
   ·obtain rfl:K=0:=by omega
    go_enter Tryz.func93,Tryz.ntmps93
    go_wp2_with (fail)
    refine HFI.out.mono ?_
    rintro e w2 ⟨rfl,rfl⟩
    go_wp2_with (first
     | (at_make;refine wpList_make_full _ rfl _ _ 37 rfl w.heap.size 5 i0 (.int .u8 0) 1 Tryz.underlying37 HI.out.1 HI.out.2.1 HI.out.2.2.1 .i64 .i64 _ _ 0 rfl rfl rfl rfl (by rw [HI.out.2.2.2];omega) (by unfold maxLen;omega) (Nat.le_refl _) ?_;intro w3 hr3 hg3;have c3:=(HMK.out w3 hr3 hg3).2.1;have HR3:=hid hr3;have HG3:=hid hg3;clear hr3 hg3))
    obtain ⟨w4,hrun,hs4,hb4⟩:=Zi7 (K:=0) (S:=nn - X) (C:=0) (sp:=some ad) 3 HIS.out (HMK.out w3 HR3.out HG3.out).1 (cs:=ys.map byteV) (by rw [List.length_map,HY.out.2]) HQ.out.2.1 (Zdp 0) (fun h=>absurd h (Nat.lt_irrefl 0)) (Ja ys)
    have HS4:=hid hs4
    have HB4:=hid hb4
    clear hs4 hb4
    rw [hrun]
    simp only [Result.andThen]
    rw [Oper.upon_value]
    clear hrun
    go_wp2_with (fail)
    go_ret2
    obtain ⟨z1,z2⟩:=HFN.out w3 w4 HR3.out HG3.out HB4.out HS4.out
    exact ⟨rfl,z1,z2⟩
   ·go_enter Tryz.func93,Tryz.ntmps93
    go_wp2_with (fail)
    refine HFI.out.mono ?_
    rintro e w2 ⟨rfl,rfl⟩
    go_wp2_with (first
     | (at_make;refine wpList_make_full _ rfl _ _ 37 rfl w.heap.size 5 i0 (.int .u8 0) 1 Tryz.underlying37 HI.out.1 HI.out.2.1 HI.out.2.2.1 .i64 .i64 _ _ K rfl rfl rfl rfl (by rw [HI.out.2.2.2];omega) (by unfold maxLen;omega) (Nat.le_refl _) ?_;intro w3 hr3 hg3;have c3:=(HMK.out w3 hr3 hg3).2.1;have HR3:=hid hr3;have HG3:=hid hg3;clear hr3 hg3))
    obtain ⟨w4,hrun,hs4,hb4⟩:=Zi7 (K:=K) (S:=nn - X) (C:=c0 - X) (sp:=some (ad.add X)) 3 HIS.out (HMK.out w3 HR3.out HG3.out).1 (cs:=ys.map byteV) (by rw [List.length_map,HY.out.2]) HQ.out.2.1 (Zdp K) (fun _=>⟨_,rfl,(HMK.out w3 HR3.out HG3.out).2.2 _ rfl⟩) (Ja ys)
    have HS4:=hid hs4
    have HB4:=hid hb4
    clear hs4 hb4
    rw [hrun]
    simp only [Result.andThen]
    rw [Oper.upon_value]
    clear hrun
    go_wp2_with (fail)
    go_ret2
    obtain ⟨z1,z2⟩:=HFN.out w3 w4 HR3.out HG3.out HB4.out HS4.out
    exact ⟨rfl,z1,z2⟩
end
end Go.Proofs.YtkelafkbmnjpeaaGreat
namespace Go.Proofs.YtkelafkbmnjpeaaGreat
open Go.Shelf
def keysDk_ren:Go.Shelf.Ren:=⟨fun | 7=>70 | 10=>123 | n=>n,fun | 23=>85 | 26=>9 | 3=>105 | 28=>123 | 0=>0 | 27=>122 | 33=>136 | 4=>4 | n=>n,fun | n=>n⟩
theorem keysDk:Go.Proofs.SlLaysZ.n7 Tryz.prog keysDk_ren:={
  mixed:=by kernel_rfl
  f7:=⟨Tryz.f70.name,by decide,Tryz.func70.trans (congrArg some (by kernel_rfl))⟩
  f10:=⟨Tryz.f123.name,by decide,Tryz.func123.trans (congrArg some (by kernel_rfl))⟩
  t0:=Tryz.underlying0
  a0:=Tryz.isAgg0
  z0:=Tryz.sizeOf0
  v0:=Tryz.zeroValue0
  t4:=Tryz.underlying4
  a4:=Tryz.isAgg4
  z4:=Tryz.sizeOf4
  v4:=Tryz.zeroValue4
  t23:=Tryz.underlying85
  a23:=Tryz.isAgg85
  z23:=Tryz.sizeOf85
  v23:=Tryz.zeroValue85
  t26:=Tryz.underlying9
  a26:=Tryz.isAgg9
  z26:=Tryz.sizeOf9
  v26:=Tryz.zeroValue9
  t27:=Tryz.underlying122
  a27:=Tryz.isAgg122
  z27:=Tryz.sizeOf122
  v27:=Tryz.zeroValue122
  t28:=Tryz.underlying123
  a28:=Tryz.isAgg123
  z28:=Tryz.sizeOf123
  v28:=Tryz.zeroValue123
  t33:=Tryz.underlying136
  a33:=Tryz.isAgg136
  z33:=Tryz.sizeOf136
  v33:=Tryz.zeroValue136 }
def sortedDk_ren:Go.Shelf.Ren:=⟨fun | 6=>69 | 8=>121 | 9=>122 | 11=>179 | 13=>181 | 12=>180 | 23=>254 | 24=>255 | 14=>245 | 15=>246 | 16=>247 | 17=>248 | 18=>249 | 19=>250 | 20=>251 | 21=>252 | 22=>253 | 25=>288 | 26=>289 | 27=>290 | 28=>291 | 29=>292 | 30=>293 | 31=>310 | n=>n,fun | 26=>9 | 28=>123 | 24=>50 | 0=>0 | 3=>3 | 37=>159 | 48=>41 | 50=>158 | 4=>4 | 40=>274 | 39=>273 | 45=>53 | 5=>5 | 9=>9 | 51=>299 | 55=>303 | 57=>313 | 58=>173 | 33=>136 | n=>n,fun | n=>n⟩
theorem sortedDk:Go.Proofs.SlLaysZ.n6 Tryz.prog sortedDk_ren:={
  mixed:=by kernel_rfl
  f6:=⟨Tryz.f69.name,by decide,Tryz.func69.trans (congrArg some (by kernel_rfl))⟩
  f8:=⟨Tryz.f121.name,by decide,Tryz.func121.trans (congrArg some (by kernel_rfl))⟩
  f11:=⟨Tryz.f179.name,by decide,Tryz.func179.trans (congrArg some (by kernel_rfl))⟩
  t0:=Tryz.underlying0
  a0:=Tryz.isAgg0
  z0:=Tryz.sizeOf0
  v0:=Tryz.zeroValue0
  t24:=Tryz.underlying50
  a24:=Tryz.isAgg50
  z24:=Tryz.sizeOf50
  v24:=Tryz.zeroValue50
  t26:=Tryz.underlying9
  a26:=Tryz.isAgg9
  z26:=Tryz.sizeOf9
  v26:=Tryz.zeroValue9
  t28:=Tryz.underlying123
  a28:=Tryz.isAgg123
  z28:=Tryz.sizeOf123
  v28:=Tryz.zeroValue123
  i26:=by kernel_rfl }
def sortDk_ren:Go.Shelf.Ren:=⟨fun | 6=>122 | 8=>181 | 9=>180 | 19=>254 | 20=>255 | 21=>245 | 22=>246 | 23=>247 | 24=>248 | 25=>249 | 26=>250 | 27=>251 | 28=>252 | 29=>253 | 36=>288 | 31=>289 | 32=>290 | 37=>291 | 38=>292 | 39=>293 | 41=>310 | n=>n,fun | 27=>50 | 29=>9 | 3=>3 | 32=>159 | 26=>50 | 0=>0 | 44=>41 | 46=>158 | 4=>4 | 36=>274 | 35=>273 | 41=>53 | 5=>5 | 9=>9 | 53=>299 | 57=>303 | 63=>313 | 64=>173 | n=>n,fun | n=>n⟩
theorem sortDk:Go.Proofs.SlLaysM.n6 Tryz.prog sortDk_ren:={
  mixed:=by kernel_rfl
  f6:=⟨Tryz.f122.name,by decide,Tryz.func122.trans (congrArg some (by kernel_rfl))⟩
  f8:=Tryz.func181.trans (congrArg some (by kernel_rfl))
  f9:=⟨Tryz.f180.name,by decide,Tryz.func180.trans (congrArg some (by kernel_rfl))⟩
  f19:=Tryz.func254.trans (congrArg some (by kernel_rfl))
  f20:=Tryz.func255.trans (congrArg some (by kernel_rfl))
  f21:=⟨Tryz.f245.name,by decide,Tryz.func245.trans (congrArg some (by kernel_rfl))⟩
  f22:=⟨Tryz.f246.name,by decide,Tryz.func246.trans (congrArg some (by kernel_rfl))⟩
  f23:=⟨Tryz.f247.name,by decide,Tryz.func247.trans (congrArg some (by kernel_rfl))⟩
  f24:=⟨Tryz.f248.name,by decide,Tryz.func248.trans (congrArg some (by kernel_rfl))⟩
  f25:=⟨Tryz.f249.name,by decide,Tryz.func249.trans (congrArg some (by kernel_rfl))⟩
  f26:=⟨Tryz.f250.name,by decide,Tryz.func250.trans (congrArg some (by kernel_rfl))⟩
  f27:=⟨Tryz.f251.name,by decide,Tryz.func251.trans (congrArg some (by kernel_rfl))⟩
  f28:=⟨Tryz.f252.name,by decide,Tryz.func252.trans (congrArg some (by kernel_rfl))⟩
  f29:=⟨Tryz.f253.name,by decide,Tryz.func253.trans (congrArg some (by kernel_rfl))⟩
  f31:=Tryz.func289.trans (congrArg some (by kernel_rfl))
  f32:=Tryz.func290.trans (congrArg some (by kernel_rfl))
  f36:=⟨Tryz.f288.name,by decide,Tryz.func288.trans (congrArg some (by kernel_rfl))⟩
  f37:=⟨Tryz.f291.name,by decide,Tryz.func291.trans (congrArg some (by kernel_rfl))⟩
  f38:=⟨Tryz.f292.name,by decide,Tryz.func292.trans (congrArg some (by kernel_rfl))⟩
  f39:=⟨Tryz.f293.name,by decide,Tryz.func293.trans (congrArg some (by kernel_rfl))⟩
  f41:=⟨Tryz.f310.name,by decide,Tryz.func310.trans (congrArg some (by kernel_rfl))⟩
  t0:=Tryz.underlying0
  a0:=Tryz.isAgg0
  z0:=Tryz.sizeOf0
  v0:=Tryz.zeroValue0
  t3:=Tryz.underlying3
  a3:=Tryz.isAgg3
  z3:=Tryz.sizeOf3
  v3:=Tryz.zeroValue3
  t4:=Tryz.underlying4
  a4:=Tryz.isAgg4
  z4:=Tryz.sizeOf4
  v4:=Tryz.zeroValue4
  t5:=Tryz.underlying5
  a5:=Tryz.isAgg5
  z5:=Tryz.sizeOf5
  v5:=Tryz.zeroValue5
  t9:=Tryz.underlying9
  a9:=Tryz.isAgg9
  z9:=Tryz.sizeOf9
  v9:=Tryz.zeroValue9
  t26:=Tryz.underlying50
  a26:=Tryz.isAgg50
  z26:=Tryz.sizeOf50
  v26:=Tryz.zeroValue50
  t27:=Tryz.underlying50
  a27:=Tryz.isAgg50
  z27:=Tryz.sizeOf50
  v27:=Tryz.zeroValue50
  t29:=Tryz.underlying9
  a29:=Tryz.isAgg9
  z29:=Tryz.sizeOf9
  v29:=Tryz.zeroValue9
  t32:=Tryz.underlying159
  a32:=Tryz.isAgg159
  z32:=Tryz.sizeOf159
  v32:=Tryz.zeroValue159
  t35:=Tryz.underlying273
  a35:=Tryz.isAgg273
  z35:=Tryz.sizeOf273
  v35:=Tryz.zeroValue273
  t36:=Tryz.underlying274
  a36:=Tryz.isAgg274
  z36:=Tryz.sizeOf274
  v36:=Tryz.zeroValue274
  t41:=Tryz.underlying53
  a41:=Tryz.isAgg53
  z41:=Tryz.sizeOf53
  v41:=Tryz.zeroValue53
  t44:=Tryz.underlying41
  a44:=Tryz.isAgg41
  z44:=Tryz.sizeOf41
  v44:=Tryz.zeroValue41
  t46:=Tryz.underlying158
  a46:=Tryz.isAgg158
  z46:=Tryz.sizeOf158
  v46:=Tryz.zeroValue158
  t53:=Tryz.underlying299
  a53:=Tryz.isAgg299
  z53:=Tryz.sizeOf299
  v53:=Tryz.zeroValue299
  t57:=Tryz.underlying303
  a57:=Tryz.isAgg303
  z57:=Tryz.sizeOf303
  v57:=Tryz.zeroValue303
  t63:=Tryz.underlying313
  a63:=Tryz.isAgg313
  z63:=Tryz.sizeOf313
  v63:=Tryz.zeroValue313
  t64:=Tryz.underlying173
  a64:=Tryz.isAgg173
  z64:=Tryz.sizeOf173
  v64:=Tryz.zeroValue173 }
def cloneDk_ren:Go.Shelf.Ren:=⟨fun | 5=>55 | 7=>101 | n=>n,fun | 23=>85 | 25=>9 | 3=>105 | 4=>4 | 20=>20 | n=>n,fun | n=>n⟩
theorem cloneDk:Go.Proofs.SlLaysW.n5 Tryz.prog cloneDk_ren:={
  mixed:=by kernel_rfl
  f5:=⟨Tryz.f55.name,by decide,Tryz.func55.trans (congrArg some (by kernel_rfl))⟩
  f7:=Tryz.func101.trans (congrArg some (by kernel_rfl))
  t4:=Tryz.underlying4
  a4:=Tryz.isAgg4
  z4:=Tryz.sizeOf4
  v4:=Tryz.zeroValue4
  t20:=Tryz.underlying20
  a20:=Tryz.isAgg20
  z20:=Tryz.sizeOf20
  v20:=Tryz.zeroValue20
  t23:=Tryz.underlying85
  a23:=Tryz.isAgg85
  z23:=Tryz.sizeOf85
  v23:=Tryz.zeroValue85 }
end Go.Proofs.YtkelafkbmnjpeaaGreat
