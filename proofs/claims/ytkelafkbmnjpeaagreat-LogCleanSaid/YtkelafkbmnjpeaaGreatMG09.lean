/-
  Texts that the statements lean on, one behind the other.
-/
import Derived.Test.YtkelafkbmnjpeaaGreatMG08
import Derived.Test.YtkelafkbmnjpeaaGreatMG01
import Derived.Lib.Hide
import Derived.LoopTactic
import Derived.IntWalk
import Derived.WalkLawsBesides
import Derived.Maps.RangeWalk
import Derived.Shelf.SlMaps.Clone
namespace Go.Proofs.YtkelafkbmnjpeaaGreat
open Go.ChangeShapes Go.WideShapes Go.ChangeAt Go.RowKit
def iV (x:Int):Value:=.int .i64 x
theorem infoI:(Tryz.prog.info? 3).map (fun i=>(i.zero,i.size,i.bytes))=some (some (.int .i64 0),1,8):=by kernel_rfl
theorem Zum (xs:List Int):∀ u∈xs.map iV,u.oneCell'=true:=by
 intro u hu
 obtain ⟨b,_,rfl⟩:=List.mem_map.1 hu
 rfl
structure Ints (w:World) (A:Option Addr) (n c:Nat) (xs:List Int):Prop where
 row:Row w w.heap.size A n (xs.map iV)
 cap:n≤c
 bare:A=none→c=0
theorem Ints.len {w:World} {A:Option Addr} {n c:Nat} {xs:List Int} (h:Ints w A n c xs):xs.length=n:=by have:=h.row.len;simpa using this
theorem Ints.grow {w w':World} {A:Option Addr} {n c:Nat} {xs:List Int} (h:Ints w A n c xs) (hg:Grows w w'):Ints w' A n c xs:=⟨hg.row h.row,h.cap,h.bare⟩
theorem Ints.get {w:World} {A:Option Addr} {n c:Nat} {xs:List Int} (h:Ints w A n c xs) {j:Nat} (hj:j < n):∃ ad x,A=some ad∧w.cell? (ad.add j)=some (.int .i64 x)∧xs[j]?=some x∧ad.block < w.heap.size:=by
 have hl:=h.len
 have hx:xs[j]?=some xs[j]:=List.getElem?_eq_getElem (by omega)
 obtain ⟨ad,hA,hb,hc⟩:=h.row.spot j (iV xs[j]) (by rw [List.getElem?_map,hx];rfl)
 exact ⟨ad,xs[j],hA,hc,hx,hb⟩
theorem Ints.owned {w:World} {base n c:Nat} {A:Option Addr} {xs:List Int} (h:w.ownsRow base 3 1 (.slice A n c) n (xs.map iV)):Ints w A n c xs:=by
 refine ⟨Row.owned h,?_,?_⟩
 ·rcases h.2 with ⟨h1,h2⟩ | ⟨g,cap,_,h1,_,_,h2,_⟩
  ·omega
  ·injection h1 with _ _ h1;omega
 ·intro hA
  rcases h.2 with ⟨h1,h2⟩ | ⟨g,cap,_,h1,_⟩
  ·injection h1
  ·injection h1 with h1 _ _;rw [hA] at h1;cases h1
theorem Ints.lit {w:World} {g t:Nat} {cs:Array Value} (h:Whole w g t cs) (xs:List Int) {n:Nat} (he:cs=(xs.map iV).toArray) (hn:xs.length=n):Ints w (some ⟨g,0,none⟩) n n xs :=
 ⟨⟨by simpa using hn,fun k v hv=>⟨⟨g,0,none⟩,rfl,h.lt,by
   rw [show (⟨g,0,none⟩:Addr).add k=⟨g,k,none⟩ by unfold Addr.add;split <;> simp_all,h.cell k,he]
   simpa using hv⟩⟩,Nat.le_refl _,fun h=>by cases h⟩
section
variable {H:Type} {enc:TypeId×Value→H} {P:Program} {W:World} {base:Nat} {r:Reach}
end
end Go.Proofs.YtkelafkbmnjpeaaGreat
set_option maxHeartbeats 8000000
set_option maxRecDepth 100000
namespace Go.Proofs.YtkelafkbmnjpeaaGreat
open Go.Lib (hid)
open Go.RowKit Go.Maps Go.WideMaps
attribute [local irreducible] Go.wpQuiet
def left (l:List Int) (made n kept:Nat):Nat:=kept+(min (max (more l made) 0) ((n:Int) - kept)).toNat
theorem Ze9 (l:List Int) (made:Nat) {n kept:Nat} (h:kept≤n):left l made n kept≤n∧kept≤left l made n kept:=by
 unfold left
 omega
theorem Zko {w:World} {b md n0 c0 kp:Nat} {A0:Option Addr} {l:List Int} {A:Option Addr} {n c:Nat} (h:Whole w b 108 #[.int .i64 (md:Int),.slice A0 n0 c0,.int .i64 (kp:Int)]) (hk:kp≤n0) (hc:n0≤c0) (hb:A0=none→c0=0) (hn0:n0≤1000000000)
 (hI:Ints w A n c l) (hmd:md≤1000000000) (hl:∀ x∈l,-9223372036854775808≤x∧x≤9223372036854775807) :
 Calls Tryz.prog 56 #[.pointer (some ⟨b,0,none⟩),.slice A n c] w fun e w'=>e=.returned (.tuple #[])∧Whole w' b 108 #[.int .i64 (md:Int),.slice A0 (left l md n0 kp) c0,.int .i64 (left l md n0 kp:Nat)]∧Zc (fun k=>k=b) w w':=by
 obtain ⟨n1,hn1⟩:∃ n1,left l md n0 kp=n1:=⟨_,rfl⟩
 have hle:=Ze9 l md hk
 rw [hn1] at hle ⊢
 have HCL:=hid (show ∀ w',Grows w w'→w'.cell? ⟨b,0,none⟩=some (.int .i64 (md:Int))∧w'.cell? ⟨b,1,none⟩=some (.slice A0 n0 c0)∧w'.cell? ⟨b,2,none⟩=some (.int .i64 (kp:Int)) from fun w' hg=>⟨hg.cellq h,hg.cellq h,hg.cellq h⟩)
 have c0':=(HCL.out w (Grows.refl w)).1
 have HW:=hid h
 have e1:IntKind.i64.wrap ((n0:Int) - (kp:Int))=(n0:Int) - kp:=IntWalk.i64_in _ (by omega)
 have hmr:-9223372036854775808≤more l md∧more l md≤9223372036854775807:=by
  unfold more
  split
  ·omega
  ·rename_i h0
   have hlt:md % l.length < l.length:=Nat.mod_lt _ (by omega)
   rw [List.getD_eq_getElem?_getD,List.getElem?_eq_getElem hlt]
   exact hl _ (List.getElem_mem hlt)
 have e2:IntKind.i64.wrap ((kp:Int)+min (max (more l md) 0) ((n0:Int) - kp))=(n1:Int):=by
  rw [IntWalk.i64_in _ (by omega),←hn1]
  unfold left
  omega
 have q1:n1≤c0:=by omega
 have HB:=hid (And.intro hb (And.intro hle (And.intro hk hc)))
 have HMI:=hid hI
 have HM:=hid (And.intro hmd hl)
 -- the two ways
 rcases Nat.eq_zero_or_pos n with hz | hz
 ·subst hz
  have hl0:l=[]:=List.eq_nil_of_length_eq_zero hI.len
  have em:more l md=0:=by rw [hl0];rfl
  rw [em,show max (0:Int) 0=0 from rfl] at e2
  clear h hk hc hb hn0 hI hmd hl hn1 hle hl0 em hmr
  go_enter Tryz.func56,Tryz.ntmps56
  go_wp2_with (fail)
  refine Ya mixed (by kernel_rfl) ?_
  iterate 14 (refine q_op' (v:=?_) (a':=?_) (by rfl) ?_ ?_ ?_
              rotate_left 2
              ·intro w' hC
               obtain ⟨z0,z1,z2⟩:=HCL.out w' hC
               clear hC
               go_simp
               try with_reducible rfl
              ·simp only [Pu]
               try rfl)
  refine wpQuiet_nil ?_
  intro w2 hC
  have HCw2:=hid hC
  clear hC
  go_wp2_with (fail)
  have HC4:=hid (fun w' (hg:Grows w2 w')=>HCL.out w' (HCw2.out.trans hg))
  generalize min (0:Int) ((n0:Int) - (kp:Int))=g0 at *
  have q0:(0:Int)≤(n1:Int):=by omega
  have q2:(n1:Int)≤(c0:Int):=by omega
  refine Ze (E:=Grows) 14 [Zb (.pointer (some ⟨b,0,none⟩)),Zb (.pointer (some ⟨b,0,none⟩)),Zb (.pointer (some ⟨b,0,none⟩)),Zb (.pointer (some ⟨b,1,none⟩)),Zb (.slice A0 n0 c0),Zb (.pointer (some ⟨b,0,none⟩)),Zb (.pointer (some ⟨b,0,none⟩)),Zb (.pointer (some ⟨b,2,none⟩)),Zb (.int .i64 (kp:Int)),Zb (.int .i64 g0),Zb (.int .i64 (n1:Int)),Zb (.slice A0 n1 c0),Zb (.pointer (some ⟨b,0,none⟩)),Zb (.pointer (some ⟨b,1,none⟩))] mixed (by kernel_rfl) (fun _ _ _=>Grows.trans) (Zf _) ?_
  simp only [List.take_succ_cons,List.take_zero,List.drop_succ_cons,List.drop_zero]
  iterate 14
   refine f_val _ (by rfl) ?_ ?_
   ·intro w' hC;obtain ⟨z0,z1,z2⟩:=HC4.out w' hC;clear hC;go_simp
   simp only [Pu]
  refine Zr ?_
  intro w3 hC hks
  have HCw3:=hid hC
  clear hC hks
  have c1:=(HC4.out w3 HCw3.out).2.1
  have k3:=HCw3.out.whole (HCw2.out.whole HW.out)
  have f1:=k3.free 1
  have HK3:=hid k3
  clear k3
  go_wp2_with (fail)
  have k4:Whole (w3.setCell ⟨b,1,none⟩ (.slice A0 n1 c0)) b 108 #[.int .i64 (md:Int),.slice A0 n1 c0,.int .i64 (kp:Int)]:=HK3.out.put 1 _
  have HKE:=hid (Zh1 _ k4)
  have HK4:=hid k4
  clear k4
  refine HKE.out.mono ?_
  rintro e w5 ⟨rfl,hw5⟩
  have HW5:=hid hw5
  clear hw5 HKE
  go_wp2_with (fail)
  go_end0
  rw [HW5.out]
  exact ⟨rfl,HK4.out.put 2 _,((Zc.grows (own:=fun k=>k=b) (HCw2.out.trans HCw3.out)).setCell (p:=⟨b,1,none⟩) rfl _).setCell (p:=⟨b,2,none⟩) rfl _⟩
 ·obtain ⟨ad,x,rfl,hx1,hx2,hx3⟩:=hI.get (j:=md % n) (Nat.mod_lt _ hz)
  have em:more l md=x:=by
   unfold more
   rw [if_neg (by rw [hI.len];omega),hI.len,List.getD_eq_getElem?_getD,hx2]
   rfl
  rw [em] at e2 hmr
  have r1:(md:Int).tmod (n:Int)=((md % n:Nat):Int):=by
   rw [Int.tmod_eq_emod_of_nonneg (by omega)]
   rfl
  have r2:((md % n:Nat):Int) < (n:Int):=by have:=Nat.mod_lt md hz;omega
  have r3:(0:Int)≤((md % n:Nat):Int):=by omega
  have z1:(0:Int) < (n:Int):=by omega
  have z2:((n:Int)==0)=false:=by rw [beq_eq_false_iff_ne];omega
  have z3:¬ (n:Int)=0:=by omega
  have r4:IntKind.i64.wrap ((md % n:Nat):Int)=((md % n:Nat):Int):=IntWalk.i64_in _ (by have:=Nat.mod_le md n;omega)
  generalize hq:md % n=q at *
  have HQ:=hid hq
  clear h hk hc hb hn0 hI hmd hl hn1 hle em hmr hx2 hx3 hq hz
  go_enter Tryz.func56,Tryz.ntmps56
  go_wp2_with (fail)
  refine Ya mixed (by kernel_rfl) ?_
  iterate 14 (refine q_op' (v:=?_) (a':=?_) (by rfl) ?_ ?_ ?_
              rotate_left 2
              ·intro w' hC
               obtain ⟨z0,z1,z2⟩:=HCL.out w' hC
               clear hC
               go_simp
               try with_reducible rfl
              ·simp only [Pu]
               try rfl)
  refine wpQuiet_nil ?_
  intro w2 hC
  have HCw2:=hid hC
  clear hC
  go_wp2_with (fail)
  have HC4:=hid (fun w' (hg:Grows w2 w')=>HCL.out w' (HCw2.out.trans hg))
  generalize min (max x 0) ((n0:Int) - (kp:Int))=g0 at *
  have q0:(0:Int)≤(n1:Int):=by omega
  have q2:(n1:Int)≤(c0:Int):=by omega
  refine Ze (E:=Grows) 14 [Zb (.pointer (some ⟨b,0,none⟩)),Zb (.pointer (some ⟨b,0,none⟩)),Zb (.pointer (some ⟨b,0,none⟩)),Zb (.pointer (some ⟨b,1,none⟩)),Zb (.slice A0 n0 c0),Zb (.pointer (some ⟨b,0,none⟩)),Zb (.pointer (some ⟨b,0,none⟩)),Zb (.pointer (some ⟨b,2,none⟩)),Zb (.int .i64 (kp:Int)),Zb (.int .i64 g0),Zb (.int .i64 (n1:Int)),Zb (.slice A0 n1 c0),Zb (.pointer (some ⟨b,0,none⟩)),Zb (.pointer (some ⟨b,1,none⟩))] mixed (by kernel_rfl) (fun _ _ _=>Grows.trans) (Zf _) ?_
  simp only [List.take_succ_cons,List.take_zero,List.drop_succ_cons,List.drop_zero]
  iterate 14
   refine f_val _ (by rfl) ?_ ?_
   ·intro w' hC;obtain ⟨z0,z1,z2⟩:=HC4.out w' hC;clear hC;go_simp
   simp only [Pu]
  refine Zr ?_
  intro w3 hC hks
  have HCw3:=hid hC
  clear hC hks
  have c1:=(HC4.out w3 HCw3.out).2.1
  have k3:=HCw3.out.whole (HCw2.out.whole HW.out)
  have f1:=k3.free 1
  have HK3:=hid k3
  clear k3
  go_wp2_with (fail)
  have k4:Whole (w3.setCell ⟨b,1,none⟩ (.slice A0 n1 c0)) b 108 #[.int .i64 (md:Int),.slice A0 n1 c0,.int .i64 (kp:Int)]:=HK3.out.put 1 _
  have HKE:=hid (Zh1 _ k4)
  have HK4:=hid k4
  clear k4
  refine HKE.out.mono ?_
  rintro e w5 ⟨rfl,hw5⟩
  have HW5:=hid hw5
  clear hw5 HKE
  go_wp2_with (fail)
  go_end0
  rw [HW5.out]
  exact ⟨rfl,HK4.out.put 2 _,((Zc.grows (own:=fun k=>k=b) (HCw2.out.trans HCw3.out)).setCell (p:=⟨b,1,none⟩) rfl _).setCell (p:=⟨b,2,none⟩) rfl _⟩
end Go.Proofs.YtkelafkbmnjpeaaGreat
namespace Go.Proofs.YtkelafkbmnjpeaaGreat
open Go.RowKit Go.Maps Go.WideMaps
def Yi (files:Nat→Fl) (names:Dir) (l:List Int) (lf:Lit→Bool):Nat→Fl:=fun i=>if names.any (fun p=>p.2==i&&!lf (.string p.1)) then (files i).lose (more l i) else files i
def Yv (files:Nat→Fl) (names:Dir) (l:List Int) (lf:Lit→Bool):Int:=(names.map fun p=>if lf (.string p.1) then 0 else (((files p.2).lose (more l p.2)).bytes.length:Int)).sum
theorem Zna (f:Fl) (x:Int):(f.lose x).lose x=f.lose x:=by
 unfold Fl.lose
 generalize hn:f.kept+(min (max x 0) ((f.bytes.length:Int) - f.kept)).toNat=n
 have h1:(f.bytes.take n).length≤n:=by rw [List.length_take];omega
 have h2:(min (max x 0) (((f.bytes.take n).length:Int) - n)).toNat=0:=by omega
 simp only [h2,Nat.add_zero,List.take_take,Nat.min_self]
theorem Zo4 {l:Dir} {p:Nm×Nat} (h:p∈l):Maps.has (encD (H:=Unit) l) (.string p.1)=true:=by
 rw [Zpm]
 unfold Dir.find
 rw [Option.isSome_map,List.find?_isSome]
 exact ⟨p,h,by simp⟩
section
variable (files:Nat→Fl) (l:List Int)
theorem Znb (names:Dir):Yi files names l (Maps.has (encD (H:=Unit) names))=files∧Yv files names l (Maps.has (encD (H:=Unit) names))=0:=by
 constructor
 ·funext i
  unfold Yi
  rw [if_neg]
  rw [Bool.not_eq_true,List.any_eq_false]
  intro p hp
  rw [Zo4 hp]
  simp
 ·unfold Yv
  have:(names.map fun p=>if Maps.has (encD (H:=Unit) names) (.string p.1) then (0:Int) else (((files p.2).lose (more l p.2)).bytes.length:Int))=names.map fun _=>0:=List.map_congr_left fun p hp=>by rw [Zo4 hp];rfl
  rw [this]
  have z:∀ l:Dir,(l.map fun _=>(0:Int)).sum=0:=fun l=>by
   induction l with
   | nil=>rfl
   | cons a r ih=>simpa using ih
  exact z names
theorem Zsf {names:Dir} {lf:Lit→Bool} (h:∀ kl,lf kl=false) :
 Yi files names l lf=(fun i=>if names.any (fun p=>p.2==i) then (files i).lose (more l i) else files i)∧Yv files names l lf=(names.map fun p=>((((fun i=>if names.any (fun p=>p.2==i) then (files i).lose (more l i) else files i) p.2:Fl).bytes.length:Nat):Int)).sum:=by
 constructor
 ·funext i
  unfold Yi
  simp only [h,Bool.not_false,Bool.and_true]
 ·unfold Yv
  congr 1
  refine List.map_congr_left fun p hp=>?_
  have:names.any (fun q=>q.2==p.2)=true:=List.any_eq_true.2 ⟨p,hp,by simp⟩
  simp [h,this]
theorem Zo5 {names:Dir} (hnd:(names.map (·.1)).Nodup) {lf:Lit→Bool} {x:Nm} {f:Nat} (hf:Dir.find x names=some f) (hl:lf (.string x)=true) :
 Yi files names l (fun z=>lf z&&!z.sameKey (.string x))=(fun i=>if i=f then (Yi files names l lf f).lose (more l f) else Yi files names l lf i) ∧
 Yv files names l (fun z=>lf z&&!z.sameKey (.string x))=Yv files names l lf+(((files f).lose (more l f)).bytes.length:Int)∧(Yi files names l lf f).lose (more l f)=(files f).lose (more l f):=by
 have hmem:(x,f)∈names:=by
  unfold Dir.find at hf
  obtain ⟨p,hp,e⟩:=Option.map_eq_some_iff.1 hf
  have h1:=List.find?_some hp
  have h2:=List.mem_of_find?_eq_some hp
  have h1:p.1=x:=by simpa using h1
  subst h1;subst e
  exact h2
 have huniq:∀ p∈names,p.1=x→p=(x,f):=fun p hp e=>by
  have:=(List.pairwise_map.1 hnd)
  rcases List.mem_iff_getElem.1 hp with ⟨i,hi,rfl⟩
  rcases List.mem_iff_getElem.1 hmem with ⟨j,hj,hj2⟩
  have hij:i=j:=by
   rcases Nat.lt_trichotomy i j with h | h | h
   ·exact absurd (by rw [hj2];exact e) (List.pairwise_iff_getElem.1 this i j hi hj h)
   ·exact h
   ·exact absurd (by rw [hj2];exact e.symm) (List.pairwise_iff_getElem.1 this j i hj hi h)
  subst hij
  exact hj2
 have hidem:(Yi files names l lf f).lose (more l f)=(files f).lose (more l f):=by
  unfold Yi
  split
  ·exact Zna _ _
  ·rfl
 refine ⟨?_,?_,hidem⟩
 ·funext i
  by_cases hi:i=f
  ·subst hi
   rw [if_pos rfl,hidem]
   unfold Yi
   rw [if_pos]
   refine List.any_eq_true.2 ⟨_,hmem,?_⟩
   simp [Zfd]
  ·rw [if_neg hi]
   unfold Yi
   have:(names.any fun p=>p.2==i&&!(lf (.string p.1)&&!(Lit.string p.1).sameKey (.string x)))=names.any fun p=>p.2==i&&!lf (.string p.1):=by
    rw [Bool.eq_iff_iff,List.any_eq_true,List.any_eq_true]
    constructor
    ·rintro ⟨p,hp,h⟩
     simp only [Zfd,Bool.and_eq_true,beq_iff_eq,Bool.not_eq_true',Bool.and_eq_false_iff,Bool.not_eq_false'] at h
     obtain ⟨h1,h2⟩:=h
     refine ⟨p,hp,?_⟩
     rcases h2 with h2 | h2
     ·simp [h1,h2]
     ·have:=huniq p hp h2
      rw [this] at h1
      exact absurd h1.symm hi
    ·rintro ⟨p,hp,h⟩
     simp only [Bool.and_eq_true,beq_iff_eq,Bool.not_eq_true'] at h
     exact ⟨p,hp,by simp [h.1,h.2]⟩
   rw [this]
 ·unfold Yv
  clear hidem hf
  induction names with
  | nil=>cases hmem
  | cons a r ih =>
    simp only [List.map_cons,List.nodup_cons] at hnd
    simp only [List.map_cons,List.sum_cons]
    by_cases ha:a=(x,f)
    ·subst ha
     have hr:(r.map fun p=>if (lf (.string p.1)&&!(Lit.string p.1).sameKey (.string x))=true then (0:Int) else (((files p.2).lose (more l p.2)).bytes.length:Int))=r.map fun p=>if lf (.string p.1)=true then (0:Int) else (((files p.2).lose (more l p.2)).bytes.length:Int) :=
      List.map_congr_left fun p hp=>by
       have:p.1≠x:=fun e=>hnd.1 (List.mem_map.2 ⟨p,hp,e⟩)
       have:(p.1==x)=false:=by rw [beq_eq_false_iff_ne];exact this
       simp [Zfd,this]
     rw [hr]
     simp [Zfd,hl]
     omega
    ·have hm:(x,f)∈r:=by
      rcases List.mem_cons.1 hmem with e | e
      ·exact absurd e.symm ha
      ·exact e
     have hax:(a.1==x)=false:=by
      rw [beq_eq_false_iff_ne]
      exact fun e=>ha (huniq a (List.mem_cons_self) e)
     rw [ih hnd.2 hm (fun p hp=>huniq p (List.mem_cons_of_mem _ hp))]
     simp [Zfd,hax]
     omega
end
end Go.Proofs.YtkelafkbmnjpeaaGreat
set_option maxHeartbeats 8000000
set_option maxRecDepth 100000
namespace Go.Proofs.YtkelafkbmnjpeaaGreat
open Go.Lib (hid)
open Go.RowKit Go.Maps Go.WideMaps
attribute [local irreducible] Go.wpQuiet
theorem Ints.off {w w':World} {A:Option Addr} {n c:Nat} {xs:List Int} (h:Ints w A n c xs) (hz:w.heap.size≤w'.heap.size) (hA:∀ ad,A=some ad→xs≠[]→ad.block < w.heap.size→w'.heap[ad.block]?=w.heap[ad.block]?):Ints w' A n c xs:=by
 refine ⟨⟨h.row.len,fun k v hv=>?_⟩,h.cap,h.bare⟩
 obtain ⟨ad,he,hb,hc⟩:=h.row.spot k v hv
 refine ⟨ad,he,by omega,?_⟩
 rw [←hc]
 refine World.cell?_of_block ?_
 rw [show (ad.add k).block=ad.block by unfold Addr.add;split <;> rfl]
 exact hA ad he (fun e=>by rw [e] at hv;simp at hv) hb
theorem Zo3 {w:World} {base:Nat} {e:TypeId} {size:Nat} {A:Option Addr} {n c k:Nat} {xs:List Value} (h:w.ownsRow base e size (.slice A n c) k xs):n≤c:=by
 rcases h.2 with ⟨e1,_⟩ | ⟨g,cap,cur,e1,_,_,e2,_⟩
 ·injection e1 with _ e1 e3;omega
 ·injection e1 with _ e1 e3;omega
theorem Zm8 {w:World} {base:Nat} {e:TypeId} {A:Option Addr} {n c k:Nat} {xs:List Value} (h:w.ownsRow base e 1 (.slice A n c) n xs) (hk:k≤n):w.ownsRow base e 1 (.slice A k c) k (xs.take k):=by
 obtain ⟨h1,h2⟩:=h
 refine ⟨by rw [List.length_take];omega,?_⟩
 rcases h2 with ⟨e1,e2⟩ | ⟨g,cap,cur,e1,hb,hh,r1,r2,r3,r4⟩
 ·injection e1 with e1 _ e3
  exact .inl ⟨by rw [e1,e3,show k=0 by omega],by omega⟩
 ·injection e1 with e1 _ e3
  refine .inr ⟨g,cap,cur,by rw [e1,e3],hb,hh,by omega,r2,r3,?_⟩
  rw [←r4,List.take_take]
  congr 1
  omega
section
variable {w:World} {d:Nat} {own:Nat→Prop} {G:Geo} {m:Dk}
theorem Z3.renamed {w w':World} (h:Z3 w own G m) {nb:Nat} {l:Dir} (hn:Zcs w' m.made G.loc nb l) (hnew:¬ own nb) (hs:∀ k,own k→w'.heap[k]?=w.heap[k]?) (hz:w.heap.size≤w'.heap.size) :
 Z3 w' (fun k=>own k∨k=nb) { G with nb:=nb } { m with names:=l }:=by
 have h':=h.stay hs hz
 constructor
 ·rintro k (hk | rfl)
  ·exact h'.lt k hk
  ·exact World.ownsMap.lt hn
 ·exact hn
 ·exact .inr rfl
 ·exact h'.kept
 ·exact .inl h'.ok
 ·exact fun e=>hnew (by have e:nb=G.kb:=e;exact e ▸ h.ok)
 ·exact h'.pend
 ·exact fun k hk=>.inl (h'.op k hk)
 ·exact fun i v c h1 h2=>(h'.chs i v c h1 h2).stay (fun _ h=>.inl h) (Nat.le_refl _) (fun _ _=>rfl) fun _ _ _ _ _ _=>rfl
 ·exact h'.inj
 ·exact h'.cells
 ·exact fun i hi=>.inl (h'.ol i hi)
 ·exact h'.rows
 ·exact fun i k hi hk=>.inl (h'.or i k hi hk)
 ·exact h'.apart
theorem DkAt.losing {w w':World} (h:DkAt w d own G m) {f:Nat} (hf:f < m.made) (l:List Int) {A:Option Addr} {c:Nat} (hA:G.row f=.slice A (m.files f).bytes.length c) (hk:(m.files f).kept≤(m.files f).bytes.length)
 (hw:Whole w' (G.loc f) 108 #[.int .i64 (f:Int),.slice A (left l f (m.files f).bytes.length (m.files f).kept) c,.int .i64 (left l f (m.files f).bytes.length (m.files f).kept:Nat)]) (hs:Zc (fun k=>k=G.loc f) w w') :
 DkAt w' d own { G with row:=fun j=>if j=f then .slice A (left l f (m.files f).bytes.length (m.files f).kept) c else G.row j } (m.setFile f ((m.files f).lose (more l f))):=by
 have hle:=Ze9 l f hk
 have hr:=h.rest.rows f hf
 rw [hA] at hr
 have hsh:=Zm8 hr hle.1
 have hb:∀ k,(Value.slice A (left l f (m.files f).bytes.length (m.files f).kept) c).ownBlock=some k→(G.row f).ownBlock=some k:=fun k hk=>by
  rw [hA]
  cases A <;> exact hk
 have hne:∀ k,(G.row f).ownBlock=some k→k≠G.loc f:=fun k hk e=>by
  obtain ⟨cur,h1⟩:=Zx (h.rest.rows f hf) hk
  have h2:=h.rest.cells f hf
  unfold Whole at h2
  rw [←e,h1] at h2
  injection h2 with h2
  injection h2 with _ h2 _
  cases h2
 have e1:(m.files f).lose (more l f)=⟨(m.files f).bytes.take (left l f (m.files f).bytes.length (m.files f).kept),left l f (m.files f).bytes.length (m.files f).kept⟩:=rfl
 have hlen:((m.files f).bytes.take (left l f (m.files f).bytes.length (m.files f).kept)).length=left l f (m.files f).bytes.length (m.files f).kept:=by
  rw [List.length_take];omega
 rw [e1]
 refine ⟨h.rest.filed hf hw ?_ (fun k hk=>hk) (fun k hk=>Nat.lt_of_lt_of_le (h.rest.lt k hk) hs.size) (fun k hk=>h.rest.or f k hf (hb k hk)) (fun k hk=>.inl (hb k hk)) (fun k hk h1 _=>hs.same k (h.rest.lt k hk) h1),?_,h.free⟩
 ·show w'.ownsRow 0 5 1 _ ((m.files f).bytes.take (left l f (m.files f).bytes.length (m.files f).kept)).length (((m.files f).bytes.take (left l f (m.files f).bytes.length (m.files f).kept)).map byteV)
  rw [hlen,List.map_take]
  exact Yh hsh fun k hk=>hs.same k (h.rest.lt k (h.rest.or f k hf (hb k hk))) (hne k (hb k hk))
 ·exact h.top.same (hs.same d h.top.lt fun e=>h.free (e ▸ h.rest.ol f hf))
theorem Jw {H:Type} {P:Program} {k:TypeId} {R:Value→Option (DataW H×List MemPlace)} {w w':World} {b r n:Nat} {D:DataW H} {lf:Lit→Bool} {cnt:Nat} (h:w.ranges P k R b r n D lf cnt) (e1:w'.heap[b]?=w.heap[b]?) (e2:w'.heap[r]?=w.heap[r]?):w'.ranges P k R b r n D lf cnt:=by
 obtain ⟨es,clock,since,seen,c0,hb,F,hs,hD,hr,rest⟩:=h
 exact ⟨es,clock,since,seen,c0,e1.trans hb,F,hs,hD,e2.trans hr,rest⟩
theorem Zsd {files:Nat→Fl} {ns:Dir} {l:List Int} {lf:Lit→Bool} {i:Nat} (h:(files i).bytes.length≤1000000000∧(files i).kept≤(files i).bytes.length):(Yi files ns l lf i).bytes.length≤1000000000∧(Yi files ns l lf i).kept≤(Yi files ns l lf i).bytes.length:=by
 unfold Yi
 split
 ·have:=Ze9 l i h.2
  unfold left at this
  unfold Fl.lose
  dsimp only
  rw [List.length_take]
  omega
 ·exact h
theorem Zm9 {made:Nat} {loc:Nat→Nat} {ns:Dir} {x:Nm} {c:Value} {yd:DataW Unit} {yp:List MemPlace} (hv:ptrR made loc c=some (yd,yp)) (hat:∀ zd,(encD (H:=Unit) ns).atKey (.string x) zd=yd):∃ f,Dir.find x ns=some f∧f < made∧c=.pointer (some ⟨loc f,0,none⟩):=by
 cases hf:Dir.find x ns with
 | none =>
   have h1:=hat (.lit (.int .i64 0))
   have h2:=hat (.lit (.int .i64 1))
   rw [Zpl,hf] at h1 h2
   dsimp only at h1 h2
   rw [←h1] at h2
   simp only [DataW.lit.injEq,Lit.int.injEq] at h2
   omega
 | some f =>
   have h1:=hat (.lit (.int .i64 0))
   rw [Zpl,hf] at h1
   dsimp only at h1
   rcases Zeq hv with ⟨rfl,e⟩ | ⟨i,hi,rfl,e⟩
   ·simp only [Prod.mk.injEq] at e
    rw [←h1] at e
    simp only [DataW.lit.injEq,Lit.int.injEq] at e
    omega
   ·simp only [Prod.mk.injEq] at e
    rw [←h1] at e
    simp only [DataW.lit.injEq,Lit.int.injEq] at e
    obtain rfl:f=i:=by omega
    exact ⟨f,rfl,hi,rfl⟩
theorem Zse (w:World) (dirs:Int) {l:List Int} {A:Option Addr} {n c:Nat} (h:DkAt w d own G m) (hF:DkFit m) (hI:Ints w A n c l) (hl:∀ x∈l,-9223372036854775808≤x∧x≤9223372036854775807) (hoff:∀ ad,A=some ad→l≠[]→ad.block≠d∧¬ own ad.block) :
 Calls Tryz.prog 19 #[.pointer (some ⟨d,0,none⟩),.int .i64 dirs,.slice A n c] w fun e w'=>e=.returned (.tuple #[])∧DkTo w d own w' (m.boot dirs l):=by
 obtain ⟨k,hk⟩:∃ k:Nat,(min (max dirs 0) (m.pend.length:Int)).toNat=k:=⟨_,rfl⟩
 have hk1:(k:Int)=min (max dirs 0) (m.pend.length:Int):=by omega
 have HKP:=hid (Zgx (k:=k) w h (by omega) hF.pend hF.kept)
 rw [hk1] at HKP
 obtain ⟨PA,pc,hPA,_⟩:=Zl h.rest.pend
 have c5:w.cell? ⟨d,5,none⟩=some (.slice PA m.pend.length pc):=by rw [←hPA];exact h.cell 5
 have HK:=hid (And.intro hk hF)
 have HI:=hid (And.intro hI (And.intro hl hoff))
 have HLT:=hid (fun k hk=>DkAt.lt h (k:=k) hk)
 clear hk hk1 hF hI hl hoff h hPA
 generalize hN:m.pend.length=N at c5 HKP
 have HN:=hid hN
 clear hN
 go_enter Tryz.func19,Tryz.ntmps19
 go_wp2_with (fail)
 refine HKP.out.mono ?_
 rintro e w1 ⟨rfl,own1,G1,h1,s1,o1⟩
 have c4:w1.cell? ⟨d,4,none⟩=some (.map (some G1.kb)):=h1.cell 4
 have HCL:=hid (AnyW.maps_Clone_owns cloneDk 9 (ptrR m.made G1.loc) G1.kb _ _ w1 h1.rest.kept)
 have H1:=hid h1
 have S1:=hid (And.intro s1 o1)
 clear h1 s1 o1 HKP c5
 go_wp2_with (fail)
 refine HCL.out.mono ?_
 rintro e w2 ⟨rfl,hm2,_,hb2⟩
 have HM2:=hid hm2
 have hg2:Grows w1 w2:=hb2
 have HB2:=hid hg2
 have c3:w2.cell? ⟨d,3,none⟩=some (.map (some G1.nb)):=hg2.cellq H1.out.top
 have c2:w2.cell? ⟨d,2,none⟩=some (.int .i64 m.used):=hg2.cellq H1.out.top
 have f3:=(hg2.whole H1.out.top).free 3
 have f2:=(hg2.whole H1.out.top).free 2
 obtain ⟨nb,hnb⟩:∃ nb,w1.heap.size=nb:=⟨_,rfl⟩
 have hlt1:∀ k,k=d∨own1 k→k < nb:=fun k hk=>hnb ▸ H1.out.lt hk
 rw [hnb] at hm2
 have hnd:nb≠d:=fun e=>by have:=hlt1 d (.inl rfl);omega
 have hno:¬ own1 nb:=fun e=>by have:=hlt1 nb (.inr e);omega
 have HNB:=hid (And.intro hnb (And.intro hnd hno))
 -- the world behind the first two stores
 have D3:DkAt ((w2.setCell ⟨d,3,none⟩ (.map (some nb))).setCell ⟨d,2,none⟩ (.int .i64 0)) d (fun k=>own1 k∨k=nb) { G1 with nb:=nb } { m.keep k with names:=(m.keep k).kept,used:=0 }:=by
  have h2:=H1.out.grow hg2
  have hother:∀ x,x≠d→((w2.setCell ⟨d,3,none⟩ (.map (some nb))).setCell ⟨d,2,none⟩ (.int .i64 0)).heap[x]?=w2.heap[x]?:=fun x hx=>by
   rw [Below.heap_setCell _ _ _ _ hx,Below.heap_setCell _ _ _ _ hx]
  have hsz:w2.heap.size≤((w2.setCell ⟨d,3,none⟩ (.map (some nb))).setCell ⟨d,2,none⟩ (.int .i64 0)).heap.size:=by simp [World.setCell]
  have r1:=h2.rest.renamed (w':=(w2.setCell ⟨d,3,none⟩ (.map (some nb))).setCell ⟨d,2,none⟩ (.int .i64 0)) (l:=(m.keep k).kept) (Ym hm2 (hother nb hnd)) hno (fun x hx=>hother x fun e=>h2.free (e ▸ hx)) hsz
  refine ⟨r1.like rfl rfl rfl rfl rfl,(h2.top.put 3 (.map (some nb))).put 2 (.int .i64 0),?_⟩
  rintro (e | e)
  ·exact h2.free e
  ·exact hnd e.symm
 have s3:Zc (fun k=>k=d∨own k) w ((w2.setCell ⟨d,3,none⟩ (.map (some nb))).setCell ⟨d,2,none⟩ (.int .i64 0)):=((S1.out.1.trans (Zc.grows hg2)).setCell (p:=⟨d,3,none⟩) (.inl rfl) _).setCell (p:=⟨d,2,none⟩) (.inl rfl) _
 have cd:((w2.setCell ⟨d,3,none⟩ (.map (some nb))).setCell ⟨d,2,none⟩ (.int .i64 0)).cell? ⟨d,3,none⟩=some (.map (some nb)):=D3.cell 3
 have D3H:=hid D3
 have S3:=hid s3
 have HM3:=hid D3.rest.names
 clear hm2 hb2 HCL c4 hg2 hlt1 hnd hno D3 s3
 subst hnb
 go_wp2_with (first
  | (at_range;refine wpList_range_own _ rfl _ 85 rfl 9 105 lawStr Tryz.underlying85 _ w1.heap.size _ _ rfl HM3.out ?_;intro w4 hrg hg4 hs4;have HRG:=hid hrg;have HG4:=hid hg4;clear hrg hg4 hs4))
 go_frame
 generalize hw3:(w2.setCell ⟨d,3,none⟩ (.map (some w1.heap.size))).setCell ⟨d,2,none⟩ (.int .i64 0)=w3 at *
 generalize hrr:w3.heap.size=r at *
 have HR:=hid (And.intro hw3 hrr)
 clear hw3 hrr cd c3 c2 f3 f2
 have hro:r≠d∧¬ (own1 r∨r=w1.heap.size):=by
  constructor
  ·intro e
   have:=D3H.out.top.lt
   have:=HR.out.2
   omega
  ·intro e
   have:=D3H.out.rest.lt r e
   have:=HR.out.2
   omega
 have HRO:=hid (And.intro hro (by have:=HR.out.2;have:=S3.out.size;omega:w.heap.size≤r))
 clear hro
 have hnd:(((m.keep k).kept).map (·.1)).Nodup:=(Zed HM3.out).imp fun {a b} h e=>by
  subst e
  rw [WideAt.bytes_irrefl] at h
  cases h
 have HND:=hid hnd
 clear hnd
 have hst:=Znb m.files l (m.keep k).kept
 have D4:DkAt w4 d (fun x=>own1 x∨x=w1.heap.size) { G1 with nb:=w1.heap.size } { m.keep k with names:=(m.keep k).kept,files:=Yi m.files (m.keep k).kept l (Maps.has (encD (H:=Unit) (m.keep k).kept)),used:=wrap64 (Yv m.files (m.keep k).kept l (Maps.has (encD (H:=Unit) (m.keep k).kept))) }:=by
  have:=D3H.out.grow ((Below.refl _ w3).grown HG4.out (Nat.le_refl _) (fun g e=>by cases e))
  rw [hst.1,hst.2,show wrap64 0=0 from IntWalk.wrap64_in 0 (by omega)]
  exact this
 have S4:=hid (S3.out.grown (w':=w4) HG4.out (fun g e=>by cases e))
 have HD4:=hid D4
 clear D4 hst
 go_loopw [7] (fun _ wr=>∃ (lf:Lit→Bool) (cnt:Nat) (G':Geo),Hid (G'.nb=w1.heap.size)∧Hid (wr.ranges Tryz.prog 9 (ptrR m.made G'.loc) w1.heap.size r (m.keep k).kept.length (encD (m.keep k).kept) lf cnt)∧Hid (DkAt wr d (fun x=>own1 x∨x=w1.heap.size) G' { m.keep k with names:=(m.keep k).kept,files:=Yi m.files (m.keep k).kept l lf,used:=wrap64 (Yv m.files (m.keep k).kept l lf) })∧Hid (Zc (fun x=>x=d∨own x) w wr)) (fun _ wr=>wr.rangeLeft w1.heap.size r)
 case atStart=>exact ⟨_,_,{ G1 with nb:=w1.heap.size },hid rfl,HRG,HD4,S4⟩
 case round =>
  obtain ⟨lf,cnt,G',HNB',HRr,HDr,HSr⟩:=hrel
  go_wp2_with (first
   | (at_next;refine wpList_next_ranges _ rfl _ rfl 9 lawStr (ptrR m.made G'.loc) encStr (fun v:Value=>v) (fun key kl hk=>by obtain ⟨x,hx,_⟩:=Maps.keyOf_str Tryz.underlying9 hk;exact ⟨x,hx⟩) (fun v y hv=>⟨v,rfl⟩) w1.heap.size r _ _ _ _ rfl HRr.out ?_ ?_))
  ·intro _ hl0
   have HL0:=hid hl0
   clear hl0
   have c7:wr.cell? ⟨d,7,none⟩=some (.int .i64 m.fail):=HDr.out.cell 7
   have f7:=HDr.out.top.free 7
   have c8:wr.cell? ⟨d,8,none⟩=some (.int .i64 m.cut):=HDr.out.cell 8
   have f8:=HDr.out.top.free 8
   have c9:wr.cell? ⟨d,9,none⟩=some (.bool m.down):=HDr.out.cell 9
   have f9:=HDr.out.top.free 9
   go_wp2_with (fail)
   go_end0
   have h7:=HDr.out.set 7 (.int .i64 (-1)) (m':={ m.keep k with names:=(m.keep k).kept,files:=Yi m.files (m.keep k).kept l lf,used:=wrap64 (Yv m.files (m.keep k).kept l lf),fail:=-1 }) rfl rfl rfl rfl rfl rfl
   have h8:=h7.set 8 (.int .i64 (-1)) (m':={ m.keep k with names:=(m.keep k).kept,files:=Yi m.files (m.keep k).kept l lf,used:=wrap64 (Yv m.files (m.keep k).kept l lf),fail:=-1,cut:=-1 }) rfl rfl rfl rfl rfl rfl
   have h9:=h8.set 9 (.bool false) (m':={ m.keep k with names:=(m.keep k).kept,files:=Yi m.files (m.keep k).kept l lf,used:=wrap64 (Yv m.files (m.keep k).kept l lf),fail:=-1,cut:=-1,down:=false }) rfl rfl rfl rfl rfl rfl
   have hend:=Zsf m.files l (names:=(m.keep k).kept) HL0.out
   rw [hend.1,hend.2] at h9
   have em:m.boot dirs l={ m.keep k with names:=(m.keep k).kept,files:=fun i=>if (m.keep k).kept.any (fun p=>p.2==i) then (m.files i).lose (more l i) else m.files i,used:=wrap64 (((m.keep k).kept.map fun p=>((((fun i=>if (m.keep k).kept.any (fun p=>p.2==i) then (m.files i).lose (more l i) else m.files i) p.2:Fl).bytes.length:Nat):Int)).sum),fail:=-1,cut:=-1,down:=false }:=by
    unfold Dk.boot
    rw [HK.out.1]
   refine ⟨rfl,_,_,em ▸ h9,((HSr.out.setCell (p:=⟨d,7,none⟩) (.inl rfl) _).setCell (p:=⟨d,8,none⟩) (.inl rfl) _).setCell (p:=⟨d,9,none⟩) (.inl rfl) _,?_⟩
   rintro x (hx | rfl)
   ·exact S1.out.2 x hx
   ·exact .inr S1.out.1.size
  ·intro x c' kl yd yp w5 cnt5 hkey hlk hv hat hrg5 hlt5 hg5 hs5 hen
   obtain ⟨x',ex,rfl,hxl⟩:=Maps.keyOf_str Tryz.underlying9 hkey
   obtain rfl:x=x':=encStr_inj ex
   obtain ⟨f,hf,hfm,rfl⟩:=Zm9 hv hat
   have HF:=hid (And.intro hf (And.intro hfm hlk))
   have HR5:=hid (And.intro hrg5 (And.intro hlt5 hg5))
   have h5:DkAt w5 d (fun x=>own1 x∨x=w1.heap.size) G' { m.keep k with names:=(m.keep k).kept,files:=Yi m.files (m.keep k).kept l lf,used:=wrap64 (Yv m.files (m.keep k).kept l lf) } :=
    HDr.out.spare (oth:=fun y=>y=r) ((Zc.refl _ wr).grown hg5 (fun g e=>by injection e with e;exact e.symm)) (by
     rintro y (rfl | hy) e
     ·exact HRO.out.1.1 e.symm
     ·exact HRO.out.1.2 (e ▸ hy))
   have s5:Zc (fun y=>y=d∨own y) w w5:=by
    refine ((HSr.out.wider (own':=fun y=>(y=d∨own y)∨y=r) fun y _ h=>.inl h).grown hg5 (fun g e=>by injection e with e;exact .inr e.symm)).wider fun y hy h=>h.elim id fun e=>?_
    have:=HRO.out.2
    omega
   have hi5:Ints w5 A n c l:=HI.out.1.off s5.size fun ad e hne hlt=>s5.same _ hlt (fun h=>h.elim (HI.out.2.2 ad e hne).1 (HI.out.2.2 ad e hne).2)
   have hfit:=Zsd (ns:=(m.keep k).kept) (l:=l) (lf:=lf) (HK.out.2.bytes f hfm)
   obtain ⟨A0,c0,hA0,hbare⟩:=Zl (h5.rest.rows f hfm)
   have hcc:=h5.rest.cells f hfm
   rw [hA0] at hcc
   have hcap:(Yi m.files (m.keep k).kept l lf f).bytes.length≤c0:=by
    have:=h5.rest.rows f hfm
    rw [hA0] at this
    exact Zo3 this
   have HLO:=hid (Zko hcc hfit.2 hcap hbare hfit.1 hi5 (by have:=HK.out.2.made;omega) HI.out.2.1)
   have H5:=hid (And.intro h5 (And.intro s5 (And.intro hfit hA0)))
   clear hkey hlk hv hat hrg5 hlt5 hg5 hs5 hxl hf hfm h5 s5 hi5 hfit hA0 hbare hcc hcap ex
   generalize hlo:G'.loc f=lo at hen HLO
   have HLC:=hid hlo
   clear hlo
   go_wp2_with (fail)
   refine HLO.out.mono ?_
   rintro e w6 ⟨rfl,hw6,s6⟩
   obtain ⟨n1,hn1⟩:∃ n1,left l f (Yi m.files (m.keep k).kept l lf f).bytes.length (Yi m.files (m.keep k).kept l lf f).kept=n1:=⟨_,rfl⟩
   have h6:=H5.out.1.losing HF.out.2.1 l H5.out.2.2.2 H5.out.2.2.1.2 (HLC.out ▸ hw6) (HLC.out ▸ s6)
   have hw6':Whole w6 lo 108 #[.int .i64 (f:Int),.slice A0 n1 c0,.int .i64 (n1:Int)]:=hn1 ▸ hw6
   have hne1:w1.heap.size≠lo:=fun e=>by
    obtain ⟨es,cl,h2⟩:=Z0 HR5.out.1.owns
    have h3:=H5.out.1.rest.cells f HF.out.2.1
    unfold Whole at h3
    rw [HLC.out,←e,h2] at h3
    cases h3
   have hne2:r≠lo:=fun e=>HRO.out.1.2 (e ▸ HLC.out ▸ H5.out.1.rest.ol f HF.out.2.1)
   have r6:=Jw HR5.out.1 (s6.same _ (World.ownsMap.lt HR5.out.1.owns) hne1) (s6.same _ HR5.out.1.lt hne2)
   have t6:Zc (fun y=>y=d∨own y) w w6:=by
    refine ((H5.out.2.1.wider (own':=fun y=>(y=d∨own y)∨w.heap.size≤y) fun y _ h=>.inl h).trans (s6.wider fun y _ e=>?_)).wider fun y hy h=>h.elim id fun e=>by omega
    have:=H5.out.1.rest.ol f HF.out.2.1
    rw [HLC.out] at this
    rw [e]
    rcases this with e | e
    ·exact (S1.out.2 _ e).imp .inr id
    ·exact .inr (e ▸ S1.out.1.size)
   have HC6:=hid (show ∀ w',Grows w6 w'→w'.cell? ⟨d,2,none⟩=some (.int .i64 (wrap64 (Yv m.files (m.keep k).kept l lf)))∧w'.cell? ⟨lo,1,none⟩=some (.slice A0 n1 c0) from fun w' hg=>⟨hg.cellq h6.top,hg.cellq hw6'⟩)
   have H6:=hid (And.intro h6 (And.intro r6 (And.intro t6 hn1)))
   clear h6 r6 t6 hn1 hw6 hw6' s6 hne1 hne2 HLO
   generalize hus:wrap64 (Yv m.files (m.keep k).kept l lf)=us at HC6
   have HUS:=hid hus
   clear hus
   go_wp2_with (fail)
   refine Ze (E:=Grows) 12 [Zb (.pointer (some ⟨d,0,none⟩)),Zb (.pointer (some ⟨d,0,none⟩)),Zb (.pointer (some ⟨d,2,none⟩)),Zb (.int .i64 us),Zb (.pointer (some ⟨lo,0,none⟩)),Zb (.pointer (some ⟨lo,0,none⟩)),Zb (.pointer (some ⟨lo,1,none⟩)),Zb (.slice A0 n1 c0),Zb (.int .i64 (n1:Int)),Zb (.int .i64 (wrap64 (us+n1))),Zb (.pointer (some ⟨d,0,none⟩)),Zb (.pointer (some ⟨d,2,none⟩))] mixed (by kernel_rfl) (fun _ _ _=>Grows.trans) (Zf _) ?_
   simp only [List.take_succ_cons,List.take_zero,List.drop_succ_cons,List.drop_zero]
   iterate 9
    refine f_val _ (by rfl) ?_ ?_
    ·intro w' hC;obtain ⟨z0,z1⟩:=HC6.out w' hC;clear hC;go_simp
    simp only [Pu]
   refine f_val _ (by rfl) ?_ ?_
   ·intro w' hC;clear hC;(go_simp;unfold wrap64;rw [IntKind.wrap_i64])
   simp only [Pu]
   iterate 2
    refine f_val _ (by rfl) ?_ ?_
    ·intro w' hC;obtain ⟨z0,z1⟩:=HC6.out w' hC;clear hC;go_simp
    simp only [Pu]
   refine Zr ?_
   intro w7 hC hks
   have HCw7:=hid hC
   clear hC hks
   have c2:=(HC6.out w7 HCw7.out).1
   have h7:=H6.out.1.grow HCw7.out
   have f2:=h7.top.free 2
   have H7:=hid h7
   clear h7
   go_wp2_with (fail)
   go_roundw
   case rel =>
    have hls:=Zo5 m.files l HND.out HF.out.1 HF.out.2.2
    have e1:((Yi m.files (m.keep k).kept l lf f).lose (more l f)).bytes.length=n1:=by
     have hle:=Ze9 l f H5.out.2.2.1.2
     have:=H6.out.2.2.2
     unfold left at this hle
     unfold Fl.lose
     dsimp only
     rw [List.length_take]
     omega
    have e2:wrap64 (us+n1)=wrap64 (Yv m.files (m.keep k).kept l (fun z=>lf z&&!z.sameKey (.string x))):=by
     rw [hls.2.1,←HUS.out,←hls.2.2,e1]
     unfold wrap64
     omega
    have h8:=H7.out.set 2 (.int .i64 (wrap64 (us+n1))) (m':={ m.keep k with names:=(m.keep k).kept,files:=Yi m.files (m.keep k).kept l (fun z=>lf z&&!z.sameKey (.string x)),used:=wrap64 (us+n1) }) rfl rfl rfl rfl rfl hls.1
    rw [e2] at h8 ⊢
    refine ⟨_,cnt5,_,hid ?_,hid ?_,hid h8,hid ?_⟩
    ·exact HNB'.out
    ·have hn:w1.heap.size≠d:=HNB.out.2.1
     exact Jw (Jw H6.out.2.1 (HCw7.out.block _ (World.ownsMap.lt H6.out.2.1.owns)) (HCw7.out.block _ H6.out.2.1.lt)) (Below.heap_setCell _ _ _ _ hn) (Below.heap_setCell _ _ _ _ HRO.out.1.1)
    ·exact (H6.out.2.2.1.trans (Zc.grows HCw7.out)).setCell (p:=⟨d,2,none⟩) (.inl rfl) _
   case measure =>
    have hn:w1.heap.size≠d:=HNB.out.2.1
    have r8:=Jw (Jw H6.out.2.1 (HCw7.out.block _ (World.ownsMap.lt H6.out.2.1.owns)) (HCw7.out.block _ H6.out.2.1.lt)) (w':=w7.setCell ⟨d,2,none⟩ (.int .i64 (wrap64 (us+n1)))) (Below.heap_setCell _ _ _ _ hn) (Below.heap_setCell _ _ _ _ HRO.out.1.1)
    rw [r8.left_eq,HRr.out.left_eq]
    exact HR5.out.2.1
end
end Go.Proofs.YtkelafkbmnjpeaaGreat
