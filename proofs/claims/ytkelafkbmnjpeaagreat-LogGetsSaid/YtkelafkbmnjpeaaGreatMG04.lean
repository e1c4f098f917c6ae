/-
  Texts that the statements lean on, one behind the other.
-/
import Derived.Test.YtkelafkbmnjpeaaGreatMG03
import Derived.OrdersIn
import Derived.TacticsIn
import Derived.Test.YtkelafkbmnjpeaaGreatMG00
set_option linter.unusedVariables false
set_option maxHeartbeats 4000000
set_option maxRecDepth 100000
namespace Go.Proofs.YtkelafkbmnjpeaaGreat
open Go.Lib (hid)
open Go.RowKit Go.Maps Go.WideMaps
attribute [local irreducible] Go.wpQuiet
theorem Grows.cellq {w w':World} {g t i:Nat} {cs:Array Value} (hg:Grows w w') (h:Whole w g t cs):w'.cell? ⟨g,i,none⟩=cs[i]?:=(hg.whole h).cell i
section
variable {w:World} {d:Nat} {own:Nat→Prop} {G:Geo} {m:Dk}
theorem Zi9 (w:World) (h:DkAt w d own G m) (hx:-1≤m.cut∧m.cut≤9223372036854775807) (hy:-1≤m.fail∧m.fail≤9223372036854775807) :
 Calls Tryz.prog 182 #[.pointer (some ⟨d,8,none⟩)] w fun e w1=>e=.returned (.tuple #[])∧DkAt w1 d own G { m with cut:=sooner m.cut }∧Zc (fun k=>k=d) w w1:=by
 refine (Zh5 w (h.cell 8) (h.top.free 8) (by omega)).mono ?_
 rintro e w1 ⟨rfl,hw⟩
 by_cases hy:0 < m.cut
 ·rw [if_pos hy] at hw
  subst hw
  exact ⟨rfl,h.set 8 _ (by simp [Jm,sooner,hy]) rfl rfl rfl rfl rfl,(Zc.refl (fun k=>k=d) w).setCell (p:=⟨d,8,none⟩) rfl _⟩
 ·rw [if_neg hy] at hw
  subst hw
  refine ⟨rfl,?_,Zc.refl _ _⟩
  have:({ m with cut:=sooner m.cut }:Dk)=m:=by simp [sooner,hy]
  rw [this]
  exact h
theorem Zga (w:World) (h:DkAt w d own G m) (hy:-1≤m.fail∧m.fail≤9223372036854775807) :
 Calls Tryz.prog 182 #[.pointer (some ⟨d,7,none⟩)] w fun e w1=>e=.returned (.tuple #[])∧DkAt w1 d own G { m with fail:=sooner m.fail }∧Zc (fun k=>k=d) w w1:=by
 refine (Zh5 w (h.cell 7) (h.top.free 7) (by omega)).mono ?_
 rintro e w1 ⟨rfl,hw⟩
 by_cases hy:0 < m.fail
 ·rw [if_pos hy] at hw
  subst hw
  exact ⟨rfl,h.set 7 _ (by simp [Jm,sooner,hy]) rfl rfl rfl rfl rfl,(Zc.refl (fun k=>k=d) w).setCell (p:=⟨d,7,none⟩) rfl _⟩
 ·rw [if_neg hy] at hw
  subst hw
  refine ⟨rfl,?_,Zc.refl _ _⟩
  have:({ m with fail:=sooner m.fail }:Dk)=m:=by simp [sooner,hy]
  rw [this]
  exact h
def Did (w:World) (d:Nat) (own:Nat→Prop) (r:Dk×Int) (e:Ending) (w':World):Prop:=e=.returned (.int .i64 r.2)∧DkTo w d own w' r.1
theorem DkTo.same {w w':World} {m':Dk} (h:DkAt w' d own G m') (hs:Zc (fun k=>k=d) w w'):DkTo w d own w' m' :=
 ⟨own,G,h,hs.wider fun k _ e=>.inl e,fun k hk=>.inl hk⟩
theorem DkTo.behind {w w1 w':World} {m':Dk} (hs:Zc (fun k=>k=d) w w1) (h:DkTo w1 d own w' m'):DkTo w d own w' m':=by
 obtain ⟨own',G',h1,h2,h3⟩:=h
 exact ⟨own',G',h1,(hs.wider fun k _ e=>.inl e).trans h2,fun k hk=>(h3 k hk).imp id fun h=>Nat.le_trans hs.size h⟩
theorem Za6 (w:World) (h:DkAt w d own G m) (hx:-1≤m.cut∧m.cut≤9223372036854775807) (hy:-1≤m.fail∧m.fail≤9223372036854775807) (gf:Nat) (first caps:Array Value)
 (eg:∀ args w,(callFunc gf args).run Tryz.prog w=.ok (.enter gf args) w) (does:Dk→Dk)
 (hdo:m.down=false→m.cut≠0→m.fail≠0→∀ w1,DkAt w1 d own G m.sooner→Zc (fun k=>k=d) w w1→Calls Tryz.prog gf (first++caps) w1 fun e w2=>e=.returned (.tuple #[])∧DkTo w1 d own w2 (does m.sooner)) :
 Calls Tryz.prog 125 #[.pointer (some ⟨d,0,none⟩),.func (.func gf) first caps] w fun e w'=>Did w d own (m.thing does) e w':=by
 have c9:w.cell? ⟨d,9,none⟩=some (.bool m.down):=h.cell 9
 have H:=hid h
 cases hd:m.down with
 | true =>
   rw [hd] at c9
   have e:m.thing does=(m,82):=by unfold Dk.thing;rw [if_pos hd]
   rw [e]
   have HD:=hid hd
   clear h hd hx hy hdo e
   go_enter Tryz.func125,Tryz.ntmps125
   go_wp2
   go_ret
   exact ⟨rfl,DkTo.same H.out (Zc.refl _ _)⟩
 | false =>
 rw [hd] at c9
 have HCL:=hid (And.intro h.top hd)
 have HS:=hid (And.intro hx hy)
 have HDO:=hid (hdo hd)
 clear hx hy hdo h hd
 by_cases hc:m.cut=0
 ·have e:m.thing does=({ m.sooner with cut:=-1,down:=true },82):=by unfold Dk.thing;rw [if_neg (by rw [HCL.out.2];decide),if_pos hc]
  rw [e]
  clear e
  have HCF:=hid (show ∀ w',Grows w w'→w'.cell? ⟨d,8,none⟩=some (.int .i64 0)∧w'.cell? ⟨d,7,none⟩=some (.int .i64 m.fail) from fun w' hg=>⟨by have:=hg.cellq (i:=8) HCL.out.1;simp only [Jm,hc] at this;exact this,by have:=hg.cellq (i:=7) HCL.out.1;exact this⟩)
  have HHC:=hid hc
  skip
  skip
  skip
  skip
  skip
  clear hc 
  generalize hxf:m.fail=xf at HCF 
  generalize hxc:m.cut=xc at HCF 
  have HXF:=hid (And.intro hxf hxc)
  clear hxf hxc
  go_enter Tryz.func125,Tryz.ntmps125
  go_wp2_with (fail)
  refine Ye mixed (by kernel_rfl) ?_
  iterate 12 (refine q_op' (v:=?_) (a':=?_) (by rfl) ?_ ?_ ?_
              rotate_left 2
              ·intro w' hC
               obtain ⟨z0,z1⟩:=HCF.out w' hC
               clear hC
               go_simp
               try with_reducible rfl
              ·simp only [Pu]
               try rfl)
  refine wpQuiet_nil ?_
  intro w2 hC
  have HCw2:=hid hC
  clear hC
  have HW2:=hid (H.out.grow HCw2.out)
  clear HCF
  go_wp2_with (fail)
  refine (Zi9 w2 HW2.out HS.out.1 HS.out.2).mono ?_
  rintro e w3 ⟨rfl,h3,s3⟩
  have H3:=hid h3
  have S3:=hid s3
  clear h3 s3
  go_wp2_with (fail)
  refine (Zga w3 H3.out HS.out.2).mono ?_
  rintro e w4 ⟨rfl,h4,s4⟩
  have H4:=hid (show DkAt w4 d own G m.sooner from h4)
  have S4:=hid ((HCw2.out |> Zc.grows (own:=fun k=>k=d)).trans (S3.out.trans s4))
  clear h4 s4 S3 H3
  have c8:w4.cell? ⟨d,8,none⟩=some (.int .i64 (sooner m.cut)):=H4.out.cell 8
  have f8:=H4.out.top.free 8
  have c9:w4.cell? ⟨d,9,none⟩=some (.bool m.down):=H4.out.cell 9
  have f9:=H4.out.top.free 9
  go_wp2_with (fail)
  go_ret
  have h5:DkAt (w4.setCell ⟨d,8,none⟩ (.int .i64 (-1))) d own G { m.sooner with cut:=-1 }:=H4.out.set 8 _ rfl rfl rfl rfl rfl rfl
  have h6:DkAt ((w4.setCell ⟨d,8,none⟩ (.int .i64 (-1))).setCell ⟨d,9,none⟩ (.bool true)) d own G { m.sooner with cut:=-1,down:=true }:=h5.set 9 _ rfl rfl rfl rfl rfl rfl
  exact ⟨rfl,DkTo.same h6 ((S4.out.setCell (p:=⟨d,8,none⟩) rfl _).setCell (p:=⟨d,9,none⟩) rfl _)⟩
 by_cases hf:m.fail=0
 ·have e:m.thing does=({ m.sooner with fail:=-1 },81):=by unfold Dk.thing;rw [if_neg (by rw [HCL.out.2];decide),if_neg hc,if_pos hf]
  rw [e]
  clear e
  have HCF:=hid (show ∀ w',Grows w w'→w'.cell? ⟨d,8,none⟩=some (.int .i64 m.cut)∧w'.cell? ⟨d,7,none⟩=some (.int .i64 0) from fun w' hg=>⟨by have:=hg.cellq (i:=8) HCL.out.1;exact this,by have:=hg.cellq (i:=7) HCL.out.1;simp only [Jm,hf] at this;exact this⟩)
  have HHC:=hid hc
  have d8:(m.cut==0)=false:=by simpa using hc
  have d8':decide (m.cut=0)=false:=by simpa using hc
  have HHF:=hid hf
  skip
  skip
  clear hc hf
  generalize hxf:m.fail=xf at HCF 
  generalize hxc:m.cut=xc at HCF d8 d8'
  have HXF:=hid (And.intro hxf hxc)
  clear hxf hxc
  go_enter Tryz.func125,Tryz.ntmps125
  go_wp2_with (fail)
  refine Ye mixed (by kernel_rfl) ?_
  iterate 12 (refine q_op' (v:=?_) (a':=?_) (by rfl) ?_ ?_ ?_
              rotate_left 2
              ·intro w' hC
               obtain ⟨z0,z1⟩:=HCF.out w' hC
               clear hC
               go_simp
               try with_reducible rfl
              ·simp only [Pu]
               try rfl)
  refine wpQuiet_nil ?_
  intro w2 hC
  have HCw2:=hid hC
  clear hC
  have HW2:=hid (H.out.grow HCw2.out)
  clear HCF
  go_wp2_with (fail)
  refine (Zi9 w2 HW2.out HS.out.1 HS.out.2).mono ?_
  rintro e w3 ⟨rfl,h3,s3⟩
  have H3:=hid h3
  have S3:=hid s3
  clear h3 s3
  go_wp2_with (fail)
  refine (Zga w3 H3.out HS.out.2).mono ?_
  rintro e w4 ⟨rfl,h4,s4⟩
  have H4:=hid (show DkAt w4 d own G m.sooner from h4)
  have S4:=hid ((HCw2.out |> Zc.grows (own:=fun k=>k=d)).trans (S3.out.trans s4))
  clear h4 s4 S3 H3
  have c7:w4.cell? ⟨d,7,none⟩=some (.int .i64 (sooner m.fail)):=H4.out.cell 7
  have f7:=H4.out.top.free 7
  go_wp2_with (fail)
  go_ret
  have h5:DkAt (w4.setCell ⟨d,7,none⟩ (.int .i64 (-1))) d own G { m.sooner with fail:=-1 }:=H4.out.set 7 _ rfl rfl rfl rfl rfl rfl
  exact ⟨rfl,DkTo.same h5 (S4.out.setCell (p:=⟨d,7,none⟩) rfl _)⟩
 ·have e:m.thing does=({ does m.sooner with done:=wrap64 ((does m.sooner).done+1) },0):=by unfold Dk.thing;rw [if_neg (by rw [HCL.out.2];decide),if_neg hc,if_neg hf]
  rw [e]
  clear e
  have HCF:=hid (show ∀ w',Grows w w'→w'.cell? ⟨d,8,none⟩=some (.int .i64 m.cut)∧w'.cell? ⟨d,7,none⟩=some (.int .i64 m.fail) from fun w' hg=>⟨by have:=hg.cellq (i:=8) HCL.out.1;exact this,by have:=hg.cellq (i:=7) HCL.out.1;exact this⟩)
  have HHC:=hid hc
  have d8:(m.cut==0)=false:=by simpa using hc
  have d8':decide (m.cut=0)=false:=by simpa using hc
  have HHF:=hid hf
  have d7:(m.fail==0)=false:=by simpa using hf
  have d7':decide (m.fail=0)=false:=by simpa using hf
  clear hc hf
  generalize hxf:m.fail=xf at HCF d7 d7'
  generalize hxc:m.cut=xc at HCF d8 d8'
  have HXF:=hid (And.intro hxf hxc)
  clear hxf hxc
  go_enter Tryz.func125,Tryz.ntmps125
  go_wp2_with (fail)
  refine Ye mixed (by kernel_rfl) ?_
  iterate 12 (refine q_op' (v:=?_) (a':=?_) (by rfl) ?_ ?_ ?_
              rotate_left 2
              ·intro w' hC
               obtain ⟨z0,z1⟩:=HCF.out w' hC
               clear hC
               go_simp
               try with_reducible rfl
              ·simp only [Pu]
               try rfl)
  refine wpQuiet_nil ?_
  intro w2 hC
  have HCw2:=hid hC
  clear hC
  have HW2:=hid (H.out.grow HCw2.out)
  clear HCF
  go_wp2_with (fail)
  refine (Zi9 w2 HW2.out HS.out.1 HS.out.2).mono ?_
  rintro e w3 ⟨rfl,h3,s3⟩
  have H3:=hid h3
  have S3:=hid s3
  clear h3 s3
  go_wp2_with (fail)
  refine (Zga w3 H3.out HS.out.2).mono ?_
  rintro e w4 ⟨rfl,h4,s4⟩
  have H4:=hid (show DkAt w4 d own G m.sooner from h4)
  have S4:=hid ((HCw2.out |> Zc.grows (own:=fun k=>k=d)).trans (S3.out.trans s4))
  clear h4 s4 S3 H3
  go_wp2_with (fail)
  refine (HDO.out HHC.out HHF.out w4 H4.out S4.out).mono ?_
  rintro e w5 ⟨rfl,own',G',h5,s5,o5⟩
  have c6:w5.cell? ⟨d,6,none⟩=some (.int .i64 (does m.sooner).done):=h5.cell 6
  have f6:=h5.top.free 6
  have H5:=hid h5
  have S5:=hid s5
  have O5:=hid o5
  clear h5 s5 o5
  generalize hm2:does m.sooner=m2 at *
  have HM2:=hid hm2
  clear hm2
  go_wp2_with (fail)
  go_ret
  obtain rfl:=HM2.out
  exact ⟨rfl,own',G',H5.out.set 6 _ rfl rfl rfl rfl rfl rfl,((S4.out.wider fun k _ e=>.inl e).trans S5.out).setCell (p:=⟨d,6,none⟩) (.inl rfl) _,fun k hk=>(O5.out k hk).imp id fun h=>Nat.le_trans S4.out.size h⟩
end
end Go.Proofs.YtkelafkbmnjpeaaGreat
namespace Go.Proofs.YtkelafkbmnjpeaaGreat
open Go.RowKit
section
variable {P:Program} {md:Region.Mode} {ops:Array Oper} {E:World→World→Prop} {W:World} {m:Nat}
end
end Go.Proofs.YtkelafkbmnjpeaaGreat
namespace Go.Proofs.YtkelafkbmnjpeaaGreat
open Go.RowKit
structure Job (G E:World→World→Prop) where
 α:Type
 x0:α
 val:α→Value
 R:α→World→Prop
 stays:∀ x w w',R x w→E w w'→R x w'
 rd:Bool
 wr:Bool
 C:α→World→Prop
 closed:∀ x w w',C x w→G w w'→C x w'
section
variable {P:Program} {ops:Array Oper} {md:Region.Mode} {G E:World→World→Prop} {W:World} {m:Nat}
def Job.cls (J:Job G E) (C:World→Prop) (x:J.α):World→Prop:=if J.wr then J.C x else C
theorem Job.cls_on {J:Job G E} (h:J.wr=true) (C:World→Prop) (x:J.α):J.cls C x=J.C x:=by unfold Job.cls;rw [if_pos h]
theorem Job.cls_off {J:Job G E} (h:J.wr=false) (C:World→Prop) (x:J.α):J.cls C x=C:=by unfold Job.cls;rw [if_neg (by simp [h])]
def clash (r1 w1 r2 w2:Bool):Bool:=(w1&&(r2 || w2)) || (w2&&r1)
theorem Zos {r1 w1 r2 w2:Bool} (h:clash r1 w1 r2 w2=false) (hu:(r2 || w2)=true):w1=false:=by
 cases r1 <;> cases w1 <;> cases r2 <;> cases w2 <;> simp_all [clash]
theorem Zgg {r1 w1 r2 w2:Bool} (h:clash r1 w1 r2 w2=false) (hu:(r1 || w1)=true):w2=false:=by
 cases r1 <;> cases w1 <;> cases r2 <;> cases w2 <;> simp_all [clash]
theorem Job.cls_comm {J K:Job G E} (h:clash J.rd J.wr K.rd K.wr=false) (C:World→Prop) (x:J.α) (y:K.α):K.cls (J.cls C x) y=J.cls (K.cls C y) x:=by
 cases hj:J.wr
 ·rw [Job.cls_off hj,Job.cls_off hj]
 ·have hk:K.wr=false:=Zgg h (by simp [hj])
  rw [Job.cls_off hk,Job.cls_off hk]
def Job.left (J:Job G E) (x:J.α) (w w':World):Prop:=J.R x w'∧(J.wr=true→E w w'∧J.C x w')∧(J.wr=false→G w w')
def Zib (P:Program) (J:Job G E) (w:World):Result Next→Prop
 | .ok (.value u) w'=>∃ x,u=J.val x∧J.left x w w'
 | .ok .skip w'=>∃ x,undef=J.val x∧J.left x w w'
 | .ok (.enter f args) w'=>Calls P f args w' fun e w''=>∃ x,e=.returned (J.val x)∧J.left x w w''
 | _=>False
def jStep (P:Program) (ops:Array Oper) (W:World) (J:Job G E) (o:Oper) (K:Known→(World→Prop)→Act→Prop) (ks:Known) (C:World→Prop) (a:Act):Prop :=
 if Region.wanted o (yielded ops a.tmps) then (∀ w,E W w→ks.for (o.looksAt ops) w→((J.rd || J.wr)=true→C w)→Zib P J w ((execOp a.eval o).run P w))∧∀ x,K ((o.dst,J.R x) :: ks) (J.cls C x) (a.put o.dst (J.val x)) else K ks C (a.put o.dst undef)
def jOp (P:Program) (ops:Array Oper) (W:World) (Js:Nat→Job G E) (i:Nat) (K:Known→(World→Prop)→Act→Prop) (ks:Known) (C:World→Prop) (a:Act):Prop :=
 match ops[i]? with
 | none=>K ks C a
 | some o=>jStep P ops W (Js i) o K ks C a
theorem Zot {J:Job G E} {o:Oper} {K K':Known→(World→Prop)→Act→Prop} {ks:Known} {C:World→Prop} {a:Act} (h:∀ ks C a,K ks C a→K' ks C a) (hh:jStep P ops W J o K ks C a):jStep P ops W J o K' ks C a:=by
 unfold jStep at *
 split
 ·rename_i hw;simp only [hw,if_true] at hh;exact ⟨hh.1,fun x=>h _ _ _ (hh.2 x)⟩
 ·rename_i hw;simp only [hw] at hh;exact h _ _ _ hh
def wpJ (P:Program) (ops:Array Oper) (W:World) (Q:Act→World→Prop):List Oper→List (Job G E)→Known→(World→Prop)→Act→Prop
 | [],_,ks,C,a=>∀ w,E W w→ks.all w→C w→Q a w
 | _ :: _,[],_,_,_=>False
 | o :: rest,J :: Js,ks,C,a=>jStep P ops W J o (wpJ P ops W Q rest Js) ks C a
def Jw (P:Program) (md:Region.Mode) (ops:Array Oper) (W:World) (n g:Nat) (Js:Nat→Job G E) (Z:Act→World→Prop):Nat→Array Bool→Known→(World→Prop)→Act→Prop
 | 0,listed,ks,C,a=>Region.seqB md ops g n listed=true∧∀ w,E W w→ks.all w→C w→Z a w
 | f+1,listed,ks,C,a=>Region.ready md ops listed≠[]∧∀ i∈Region.ready md ops listed,i < n∧jOp P ops W Js i (Jw P md ops W n g Js Z f (listed.setIfInBounds i true)) ks C a
theorem Zav {n g:Nat} {Js:Nat→Job G E} {Z:Act→World→Prop}:∀ (f:Nat) (listed:Array Bool) (ks ks':Known) (C:World→Prop) (a:Act),(∀ k∈ks,k∈ks')→Jw P md ops W n g Js Z f listed ks C a→Jw P md ops W n g Js Z f listed ks' C a
 | 0,listed,ks,ks',C,a,hk,h=>⟨h.1,fun w hw ha=>h.2 w hw fun k hk'=>ha k (hk k hk')⟩
 | f+1,listed,ks,ks',C,a,hk,h=>by
   refine ⟨h.1,fun i hi=>⟨(h.2 i hi).1,?_⟩⟩
   have h1:=(h.2 i hi).2
   unfold jOp at *
   split
   ·rename_i ho;simp only [ho] at h1;exact Zav f _ ks ks' C a hk h1
   ·rename_i o ho
    simp only [ho] at h1
    unfold jStep at *
    split
    ·rename_i hw
     simp only [hw,if_true] at h1
     refine ⟨fun w hw' hf=>h1.1 w hw' fun k hk'=>hf k (hk k hk'),fun x=>Zav f _ _ _ _ _ (fun k hk'=>?_) (h1.2 x)⟩
     rcases List.mem_cons.1 hk' with rfl | hk'
     ·exact List.mem_cons_self
     ·exact List.mem_cons_of_mem _ (hk k hk')
    ·rename_i hw
     simp only [hw] at h1
     exact Zav f _ ks ks' C _ hk h1
def Zgh (md:Region.Mode) (ops:Array Oper):Nat→Nat→Nat→Bool
 | 0,_,_=>false
 | f+1,j,i=>Region.waitsFor md ops j i || (List.range j).any fun k=>Region.waitsFor md ops j k&&Zgh md ops f k i
def Zgi (md:Region.Mode) (ops:Array Oper) (j i:Nat):Bool:=Zgh md ops j j i
theorem Zkn {n:Nat} {listed:Array Bool} (inv:HeadInv md ops n listed):∀ (j i:Nat),Zgi md ops j i=true→j∈Region.ready md ops listed→listed.getD i false=true:=by
 have hl:∀ (f j i:Nat),Zgh md ops f j i=true→listed.getD j false=true→listed.getD i false=true:=by
  intro f
  induction f with
  | zero=>intro j i h;simp [Zgh] at h
  | succ f ih =>
    intro j i h hj
    rw [Zgh,Bool.or_eq_true] at h
    rcases h with h | h
    ·obtain ⟨oj,hoj,e,he,hb,hon⟩:=Region.waitsFor_spec h
     have:=inv.closed _ oj hoj hj e he hb
     rwa [hon] at this
    ·obtain ⟨k,_,hk⟩:=List.any_eq_true.1 h
     rw [Bool.and_eq_true] at hk
     obtain ⟨oj,hoj,e,he,hb,hon⟩:=Region.waitsFor_spec hk.1
     have:=inv.closed _ oj hoj hj e he hb
     rw [hon] at this
     exact ih k i hk.2 this
 intro j i h hj
 obtain ⟨_,oj,hoj,hall⟩:=mem_ready.1 hj
 unfold Zgi at h
 cases j with
 | zero=>simp [Zgh] at h
 | succ j =>
   rw [Zgh,Bool.or_eq_true] at h
   rcases h with h | h
   ·obtain ⟨oj',hoj',e,he,hb,hon⟩:=Region.waitsFor_spec h
    rw [hoj] at hoj'
    injection hoj' with e'
    subst e'
    have:=hall e he hb
    rwa [hon] at this
   ·obtain ⟨k,_,hk⟩:=List.any_eq_true.1 h
    rw [Bool.and_eq_true] at hk
    obtain ⟨oj',hoj',e,he,hb,hon⟩:=Region.waitsFor_spec hk.1
    rw [hoj] at hoj'
    injection hoj' with e'
    subst e'
    have:=hall e he hb
    rw [hon] at this
    exact hl _ _ _ hk.2 this
theorem Zje {n g:Nat} {Js:Nat→Job G E} {Z:Act→World→Prop} {i:Nat} {oi:Oper} (hi:ops[i]?=some oi) (hsel:∀ (j:Nat) (o:Oper) cs b,ops[j]?=some o→o.op≠.select cs b)
 (hs:Region.sinkB md ops n=true) (hc:Region.chainB md ops n=true) (hn:n < ops.size) (hin:i < n) :
 ∀ (fuel:Nat) (listed:Array Bool) (ks:Known) (C:World→Prop) (a:Act),HeadInv md ops n listed →
  (∀ j oj,ops[j]?=some oj→j≠i→listed.getD j true=false→(∀ e∈oj.after,Region.binds md e=true→e.on≠i)→oi.apart ops oj=true) →
  (∀ j,j < n→j≠i→listed.getD j true=false→clash (Js i).rd (Js i).wr (Js j).rd (Js j).wr=true→Zgi md ops j i=true) →
  i∈Region.ready md ops listed→jStep P ops W (Js i) oi (Jw P md ops W n g Js Z fuel (listed.setIfInBounds i true)) ks C a→Jw P md ops W n g Js Z (fuel+1) listed ks C a:=by
 intro fuel
 induction fuel with
 | zero =>
   intro listed ks C a inv _ _ hr H
   have hun:=(mem_ready.1 hr).1
   refine ⟨fun h=>(by rw [h] at hr;cases hr),fun j hj=>?_⟩
   have hjn:j < n:=by
    rcases Nat.lt_or_ge j n with h | h
    ·exact h
    ·exact absurd hj (tail_waits hs hc hn inv _ i rfl hin hun j h)
   refine ⟨hjn,?_⟩
   by_cases hji:j=i
   ·subst hji;unfold jOp;simp only [hi];exact H
   ·have hseq:Region.seqB md ops g n (listed.setIfInBounds i true)=true:=by
     unfold jStep at H
     split at H
     ·exact (H.2 (Js i).x0).1
     ·exact H.1
    have:=seqB_ready hseq j (ready_mono hj hji)
    omega
 | succ fuel ih =>
   intro listed ks C a inv hfree huse hr H
   have hun:=(mem_ready.1 hr).1
   refine ⟨fun h=>(by rw [h] at hr;cases hr),fun j hj=>?_⟩
   have hjn:j < n:=by
    rcases Nat.lt_or_ge j n with h | h
    ·exact h
    ·exact absurd hj (tail_waits hs hc hn inv _ i rfl hin hun j h)
   refine ⟨hjn,?_⟩
   by_cases hji:j=i
   ·subst hji;unfold jOp;simp only [hi];exact H
   ·have hjr:=ready_mono hj hji
    obtain ⟨hjun,oj,hoj,hall⟩:=mem_ready.1 hj
    have hnot:∀ e∈oj.after,Region.binds md e=true→e.on≠i:=fun e he hb heq=>by
     have h1:=hall e he hb
     rw [heq,getD_both hun] at h1
     cases h1
    have hap:=hfree j oj hoj hji hjun hnot
    have hus:clash (Js i).rd (Js i).wr (Js j).rd (Js j).wr=false:=by
     cases hcl:clash (Js i).rd (Js i).wr (Js j).rd (Js j).wr
     ·rfl
     ·have:=Zkn inv _ _ (huse j hjn hji hjun hcl) hj
      rw [getD_both hun] at this
      cases this
    obtain ⟨p1,p2,p3⟩:=Oper.apart_spec hap
    have hsi:=fun cs b=>hsel i oi cs b hi
    have hsj:=fun cs b=>hsel j oj cs b hoj
    have hback:∀ k,k≠i→(listed.setIfInBounds j true).getD k true=false→listed.getD k true=false:=fun k hki hun'=>by
     by_cases hjk:j=k
     ·subst hjk;exact hjun
     ·rw [getD_set_ne true hjk] at hun';exact hun'
    have hfree':∀ k ok,ops[k]?=some ok→k≠i→(listed.setIfInBounds j true).getD k true=false →
     (∀ e∈ok.after,Region.binds md e=true→e.on≠i)→oi.apart ops ok=true:=fun k ok hk hki hun' hno=>hfree k ok hk hki (hback k hki hun') hno
    have huse':∀ k,k < n→k≠i→(listed.setIfInBounds j true).getD k true=false→clash (Js i).rd (Js i).wr (Js k).rd (Js k).wr=true→Zgi md ops k i=true:=fun k hkn hki hun'=>huse k hkn hki (hback k hki hun')
    have hri:=ready_mono hr (Ne.symm hji)
    have inv':=inv.set hj hjn
    unfold jOp
    simp only [hoj]
    by_cases hwi:Region.wanted oi (yielded ops a.tmps)=true
    ·unfold jStep at H
     simp only [hwi,if_true] at H
     obtain ⟨hgi,hK⟩:=H
     have hJ:∀ x,jStep P ops W (Js j) oj (Jw P md ops W n g Js Z fuel ((listed.setIfInBounds i true).setIfInBounds j true)) ((oi.dst,(Js i).R x) :: ks) ((Js i).cls C x) (a.put oi.dst ((Js i).val x)):=fun x=>by
      have:=((hK x).2 j hjr).2
      unfold jOp at this
      simp only [hoj] at this
      exact this
     unfold jStep
     by_cases hwj:Region.wanted oj (yielded ops a.tmps)=true
     ·simp only [hwj,if_true]
      have hJ':∀ x,(∀ w,E W w→Known.for ((oi.dst,(Js i).R x) :: ks) (oj.looksAt ops) w→(((Js j).rd || (Js j).wr)=true→(Js i).cls C x w)→Zib P (Js j) w ((execOp (a.put oi.dst ((Js i).val x)).eval oj).run P w)) ∧
       ∀ y,Jw P md ops W n g Js Z fuel ((listed.setIfInBounds i true).setIfInBounds j true) ((oj.dst,(Js j).R y) :: (oi.dst,(Js i).R x) :: ks) ((Js j).cls ((Js i).cls C x) y) ((a.put oi.dst ((Js i).val x)).put oj.dst ((Js j).val y)):=fun x=>by
       have:=hJ x
       unfold jStep at this
       rw [wanted_put oj a oi.dst _ p1] at this
       simp only [hwj,if_true] at this
       exact this
      refine ⟨fun w hw hf hC=>?_,fun y=>ih _ _ _ _ inv' hfree' huse' hri ?_⟩
      ·have:=(hJ' (Js i).x0).1 w hw (Zdg p1 hf) (fun hu=>by
        have:(Js i).wr=false:=Zos hus hu
        rw [Job.cls_off this]
        exact hC hu)
       rwa [execOp_put oj hsj a oi.dst _ p1] at this
      ·unfold jStep
       rw [wanted_put oi a oj.dst _ p3]
       simp only [hwi,if_true]
       refine ⟨fun w hw hf hC=>?_,fun x=>?_⟩
       ·have:=hgi w hw (Zen hf) (fun hu=>by
         have h0:(Js j).wr=false:=Zgg hus hu
         have:=hC hu
         rwa [Job.cls_off h0] at this)
        rwa [execOp_put oi hsi a oj.dst _ p3]
       ·have:=(hJ' x).2 y
        rw [Array.setIfInBounds_comm _ _ hji,←Act.put_comm a _ _ p2,←Job.cls_comm hus]
        exact Zav _ _ _ _ _ _ (Zeo _ _ _) this
     ·simp only [hwj]
      have hJ':∀ x,Jw P md ops W n g Js Z fuel ((listed.setIfInBounds i true).setIfInBounds j true) ((oi.dst,(Js i).R x) :: ks) ((Js i).cls C x) ((a.put oi.dst ((Js i).val x)).put oj.dst undef):=fun x=>by
       have:=hJ x
       unfold jStep at this
       rw [wanted_put oj a oi.dst _ p1] at this
       simp only [hwj] at this
       exact this
      refine ih _ _ _ _ inv' hfree' huse' hri ?_
      unfold jStep
      rw [wanted_put oi a oj.dst _ p3]
      simp only [hwi,if_true]
      refine ⟨fun w hw hf hC=>?_,fun x=>?_⟩
      ·have:=hgi w hw hf hC
       rwa [execOp_put oi hsi a oj.dst _ p3]
      ·rw [Array.setIfInBounds_comm _ _ hji,←Act.put_comm a _ _ p2]
       exact hJ' x
    ·unfold jStep at H
     simp only [hwi] at H
     have hJ:jStep P ops W (Js j) oj (Jw P md ops W n g Js Z fuel ((listed.setIfInBounds i true).setIfInBounds j true)) ks C (a.put oi.dst undef):=by
      have:=(H.2 j hjr).2
      unfold jOp at this
      simp only [hoj] at this
      exact this
     unfold jStep at *
     rw [wanted_put oj a oi.dst _ p1] at hJ
     by_cases hwj:Region.wanted oj (yielded ops a.tmps)=true
     ·simp only [hwj,if_true] at *
      refine ⟨fun w hw hf hC=>?_,fun y=>ih _ _ _ _ inv' hfree' huse' hri ?_⟩
      ·have:=hJ.1 w hw hf hC
       rwa [execOp_put oj hsj a oi.dst _ p1] at this
      ·rw [wanted_put oi a oj.dst _ p3]
       simp only [hwi]
       have:=hJ.2 y
       rw [Array.setIfInBounds_comm _ _ hji,←Act.put_comm a _ _ p2]
       exact this
     ·simp only [hwj] at *
      refine ih _ _ _ _ inv' hfree' huse' hri ?_
      rw [wanted_put oi a oj.dst _ p3]
      simp only [hwi]
      rw [Array.setIfInBounds_comm _ _ hji,←Act.put_comm a _ _ p2]
      exact hJ
def usesB (md:Region.Mode) (ops:Array Oper) (us:List (Bool×Bool)):Bool :=
 (List.range us.length).all fun j=>(List.range j).all fun i=>!(clash (us.getD i (false,false)).1 (us.getD i (false,false)).2 (us.getD j (false,false)).1 (us.getD j (false,false)).2) || Zgi md ops j i
theorem Zic {us:List (Bool×Bool)} (h:usesB md ops us=true) {i j:Nat} (hij:i < j) (hc:clash (us.getD i (false,false)).1 (us.getD i (false,false)).2 (us.getD j (false,false)).1 (us.getD j (false,false)).2=true):Zgi md ops j i=true:=by
 have jl:j < us.length:=by
  rcases Nat.lt_or_ge j us.length with h | h
  ·exact h
  ·have:us.getD j (false,false)=(false,false):=by rw [List.getD_eq_getElem?_getD,List.getElem?_eq_none h];rfl
   rw [this] at hc
   simp [clash] at hc
 have h1:=List.all_eq_true.1 h j (List.mem_range.2 jl)
 have h2:=List.all_eq_true.1 h1 i (List.mem_range.2 hij)
 rw [hc] at h2
 simpa using h2
theorem Zdh {n g:Nat} {Js:Nat→Job G E} {Z:Act→World→Prop} (hsel:Region.noSelect ops=true) (hs:Region.sinkB md ops n=true) (hc:Region.chainB md ops n=true) (hn:n < ops.size)
 (hu:∀ i j,i < j→clash (Js i).rd (Js i).wr (Js j).rd (Js j).wr=true→Zgi md ops j i=true) :
 ∀ (l:List Oper) (k:Nat) (js:List (Job G E)) (listed:Array Bool) (ks:Known) (C:World→Prop) (a:Act),(∀ j,j < l.length→l[j]?=ops[k+j]?)→(∀ j J,js[j]?=some J→Js (k+j)=J)→k+l.length=n→HeadInv md ops n listed →
  (∀ j,j < k→listed.getD j true=true)→Region.lexHead md ops g l.length k listed=true→wpJ P ops W Z l js ks C a→Jw P md ops W n g Js Z l.length listed ks C a
 | [],k,js,listed,ks,C,a,_,_,hk,_,_,hB,h=>by
   have:k=n:=by simpa using hk
   subst this
   refine ⟨by simpa [Region.lexHead] using hB,?_⟩
   unfold wpJ at h
   exact h
 | o :: l,k,[],listed,ks,C,a,hl,hF,hk,inv,hlo,hB,h=>h.elim
 | o :: l,k,J :: js,listed,ks,C,a,hl,hF,hk,inv,hlo,hB,h=>by
   have h0:ops[k]?=some o:=by simpa using (hl 0 (by simp)).symm
   have hF0:Js k=J:=by simpa using hF 0 J rfl
   simp only [List.length_cons,Region.lexHead,Bool.and_eq_true] at hB
   obtain ⟨⟨hr,hf⟩,hB'⟩:=hB
   have hkn:k < n:=by simp only [List.length_cons] at hk;omega
   have hr':k∈Region.ready md ops listed:=by simpa using hr
   refine Zje h0 (Region.noSelect_spec hsel) hs hc hn hkn l.length listed ks C a inv (Region.free_spec h0 hf) (fun j hjn hjk hunl hcl=>?_) hr' ?_
   ·have hkj:k < j:=by
     rcases Nat.lt_or_ge j k with h | h
     ·rw [hlo j h] at hunl;cases hunl
     ·omega
    exact hu k j hkj hcl
   rw [hF0]
   refine Zot (fun ks C a h=>Zdh hsel hs hc hn hu l (k+1) js _ ks C a (fun j hj=>by have:=hl (j+1) (by simp;omega);simpa [Nat.add_assoc,Nat.add_comm 1 j] using this)
    (fun j F' hj=>by have:=hF (j+1) F' (by simpa using hj);simpa [Nat.add_assoc,Nat.add_comm 1 j] using this) (by simp only [List.length_cons] at hk;omega) (inv.set hr' hkn) (fun j hj=>?_) hB' h) h
   by_cases hjk:k=j
   ·subst hjk
    have hks:k < listed.size:=by rw [inv.size];omega
    simp [hks]
   ·rw [getD_set_ne true hjk]
    exact hlo j (by omega)
theorem Ji {n g:Nat} {Js:Nat→Job G E} {Z:Act→World→Prop} {Q':Exit→Act→World→Prop} (hGE:∀ a b,G a b→E a b) (ht:∀ a b c,E a b→E b c→E a c) (hZ:∀ listed a w,Region.seqB md ops g n listed=true→Z a w→wpAny P md ops Q' g listed a w) :
 ∀ (f:Nat) (listed:Array Bool) (ks:Known) (C:World→Prop) (a:Act) (w:World),E W w→ks.all w→C w→(∀ k∈ks,∀ w w',k.2 w→E w w'→k.2 w')→(∀ w w',C w→G w w'→C w')→Jw P md ops W n g Js Z f listed ks C a→wpAny P md ops Q' (f+g) listed a w
 | 0,listed,ks,C,a,w,hw,ha,hCw,_,_,h=>by rw [Nat.zero_add];exact hZ _ _ _ h.1 (h.2 w hw ha hCw)
 | f+1,listed,ks,C,a,w,hw,ha,hCw,hst,hcl,h=>by
   rw [show f+1+g=(f+g)+1 by omega]
   refine ⟨fun h0=>absurd h0 h.1,fun i hi=>?_⟩
   have h1:=(h.2 i hi).2
   unfold jOp at h1
   unfold wpOp
   split
   ·rename_i ho;simp only [ho] at h1;exact Ji hGE ht hZ f _ ks C a w hw ha hCw hst hcl h1
   ·rename_i o ho
    simp only [ho] at h1
    unfold jStep at h1
    split
    ·rename_i hwd
     simp only [hwd,if_true] at h1
     obtain ⟨hg,hK⟩:=h1
     have hg':=hg w hw (Known.all_for ha) (fun _=>hCw)
     have go:∀ x w',(Js i).left x w w'→wpAny P md ops Q' (f+g) (listed.setIfInBounds i true) (a.put o.dst ((Js i).val x)) w':=fun x w' hlf=>by
      obtain ⟨hR,h1,h2⟩:=hlf
      have he:E w w':=by
       cases hu:(Js i).wr
       ·exact hGE _ _ (h2 hu)
       ·exact (h1 hu).1
      refine Ji hGE ht hZ f _ _ _ _ w' (ht _ _ _ hw he) (fun k hk=>by
       rcases List.mem_cons.1 hk with rfl | hk
       ·exact hR
       ·exact hst k hk _ _ (ha k hk) he) ?_ (fun k hk=>by
       rcases List.mem_cons.1 hk with rfl | hk
       ·exact (Js i).stays x
       ·exact hst k hk) ?_ (hK x)
      ·cases hu:(Js i).wr
       ·rw [Job.cls_off hu];exact hcl _ _ hCw (h2 hu)
       ·rw [Job.cls_on hu];exact (h1 hu).2
      ·cases hu:(Js i).wr
       ·rw [Job.cls_off hu];exact hcl
       ·rw [Job.cls_on hu];exact (Js i).closed x
     left
     unfold Oper.wp
     generalize (execOp a.eval o).run P w=r at *
     cases r with
     | ok n w' =>
       cases n <;> simp only [Zib] at hg' <;> simp only [Oper.upon]
       case value u=>obtain ⟨x,rfl,hR⟩:=hg';exact go x w' hR
       case skip=>obtain ⟨x,hx,hR⟩:=hg';rw [hx];exact go x w' hR
       case enter f args=>exact hg'.mono fun e w'' ⟨x,hx,hR⟩=>by subst hx;exact go x w'' hR
     | halt x w'=>simp only [Zib] at hg'
    ·rename_i hwd
     simp only [hwd] at h1
     exact Ji hGE ht hZ f _ ks C _ w hw ha hCw hst hcl h1
def Job.none:Job G E:=⟨Unit,(),fun _=>undef,fun _ _=>True,fun _ _ _ _ _=>trivial,false,false,fun _ _=>True,fun _ _ _ _ _=>trivial⟩
theorem Za1 {id:Nat} {Q:Exit→Act→World→Prop} {a:Act} {w:World} {l:List Oper} (n:Nat) (js:List (Job G E)) (us:List (Bool×Bool)) (C:World→Prop) (hus:us=js.map fun J=>(J.rd,J.wr)) (hm:P.follows .mixedOrders=true) (hB:(Region.lexTailB .any l.toArray n&&usesB .any l.toArray us)=true)
 (hGE:∀ a b,G a b→E a b) (ht:∀ a b c,E a b→E b c→E a c) (hd:E w { w with drawn:=w.drawn+1 }) (hC:C { w with drawn:=w.drawn+1 }) (hcl:∀ w w',C w→G w w'→C w')
 (h:wpJ (G:=G) (E:=E) P l.toArray w (fun a' w'=>wpList P l.toArray Q (l.drop n) a' w') (l.take n) js [] C a):(Code.region id l.toArray true).wp P Q a w:=by
 simp only [Region.lexTailB,Bool.and_eq_true,decide_eq_true_eq] at hB
 obtain ⟨⟨⟨⟨⟨hsel,hn⟩,hs⟩,hc⟩,hlex⟩,huB⟩:=hB
 have hn':n < l.length:=by simpa using hn
 have htl:(l.take n).length=n:=by simp;omega
 have hdl:(l.drop n).length=l.toArray.size - n:=by simp
 have inv0:HeadInv .any l.toArray n (Array.replicate l.toArray.size false) :=
  ⟨by simp,fun j oj _ hl=>(by rw [getD_replicate_false] at hl;cases hl),fun t _ ht=>getD_in (by simpa using ht) (getD_replicate_false _ _)⟩
 have hgd:∀ i,(((js[i]?).getD Job.none).rd,((js[i]?).getD Job.none).wr)=us.getD i (false,false):=fun i=>by
  subst hus
  rw [List.getD_eq_getElem?_getD,List.getElem?_map]
  cases js[i]? <;> rfl
 have H:=Zdh (P:=P) (md:=.any) (W:=w) (g:=l.toArray.size - n) (Js:=fun i=>(js[i]?).getD Job.none) (Z:=fun a' w'=>wpList P l.toArray Q (l.drop n) a' w') hsel hs hc hn
  (fun i j hij h1=>Zic huB hij (by rw [←hgd,←hgd];exact h1)) (l.take n) 0 js _ [] C a (fun j hj=>by
  have hj':j < n:=by rw [htl] at hj;exact hj
  simp [hj']) (fun j F hj=>by simp only [Nat.zero_add,hj,Option.getD_some]) (by simpa using htl) inv0 (fun j hj=>absurd hj (Nat.not_lt_zero j)) (by rw [htl];exact hlex) h
 refine wp_region_any hm ?_
 have:=Ji (Q':=Q) hGE ht (fun listed a' w' hseq hL=>by
  have:=wpAny_of_seq (md:=.any) (Q':=Q) (l.drop n) n listed a' w' (fun j=>by simp [List.getElem?_drop]) (by rw [hdl];exact hseq) hL
  rwa [hdl] at this) _ _ _ _ _ { w with drawn:=w.drawn+1 } hd (fun k hk=>by cases hk) hC (fun k hk=>by cases hk) hcl H
 rw [htl,show n+(l.toArray.size - n)=l.toArray.size by omega] at this
 exact this
end
end Go.Proofs.YtkelafkbmnjpeaaGreat
namespace Go.Proofs.YtkelafkbmnjpeaaGreat
open Go.RowKit
section
variable {own:Nat→Prop}
def Zv (own:Nat→Prop) (v:Value):Job Grows (Zc own):=⟨Unit,(),fun _=>v,fun _ _=>True,fun _ _ _ _ _=>trivial,false,false,fun _ _=>True,fun _ _ _ _ _=>trivial⟩
def wrJob (own:Nat→Prop) (v:Value) (C:World→Prop) (hC:∀ w w',C w→Grows w w'→C w'):Job Grows (Zc own):=⟨Unit,(),fun _=>v,fun _ _=>True,fun _ _ _ _ _=>trivial,true,true,fun _=>C,fun _=>hC⟩
def Zqp (own:Nat→Prop) (t:TypeId) (cs:Array Value) (n:Nat):Job Grows (Zc own) :=
 ⟨Nat,0,fun g=>.slice (some ⟨g,0,none⟩) n n,fun g w=>Whole w g t cs∧¬ own g,fun _ _ _ h g=>⟨(g.same _ h.1.lt h.2).trans h.1,h.2⟩,false,false,fun _ _=>True,fun _ _ _ _ _=>trivial⟩
def Znj (own:Nat→Prop) (base:Nat) (e:TypeId) (v0:Value) (B k:Nat) (xs:List Value):Job Grows (Zc own) :=
 ⟨Option Addr×Nat,(none,0),fun p=>.slice p.1 k p.2,fun _ _=>True,fun _ _ _ _ _=>trivial,true,true,
  fun p w=>w.ownsRow base e 1 (.slice p.1 k p.2) k xs∧((Value.slice p.1 k p.2).ownBlock=v0.ownBlock∨∃ g,(Value.slice p.1 k p.2).ownBlock=some g∧B≤g),fun _ _ _ h g=>⟨Zd h.1 g,h.2⟩⟩
variable {P:Program} {ops:Array Oper} {W:World} {Q:Act→World→Prop} {o:Oper} {rest:List Oper} {js:List (Job Grows (Zc own))} {ks:Known} {C:World→Prop} {a:Act}
theorem Zcv {G E:World→World→Prop}:∀ (l:List Oper) (js:List (Job G E)) (ks ks':Known) (C:World→Prop) (a:Act),(∀ k∈ks,k∈ks')→wpJ P ops W Q l js ks C a→wpJ P ops W Q l js ks' C a
 | [],_,_,_,_,_,hk,h=>fun w hw ha=>h w hw fun k hk'=>ha k (hk k hk')
 | _ :: _,[],_,_,_,_,_,h=>h.elim
 | o :: l,J :: js,ks,ks',C,a,hk,h=>by
   unfold wpJ jStep at *
   split
   ·rename_i hw
    simp only [hw,if_true] at h
    refine ⟨fun w hw' hf=>h.1 w hw' fun k hk'=>hf k (hk k hk'),fun x=>Zcv l js _ _ _ _ (fun k hk'=>?_) (h.2 x)⟩
    rcases List.mem_cons.1 hk' with rfl | hk'
    ·exact List.mem_cons_self
    ·exact List.mem_cons_of_mem _ (hk k hk')
   ·rename_i hw
    simp only [hw] at h
    exact Zcv l js _ _ _ _ hk h
theorem Zwg (v:Value) (hw:Region.wanted o (yielded ops a.tmps)=true) (h1:∀ w,Zc own W w→ks.for (o.looksAt ops) w→(execOp a.eval o).run P w=.ok (.value v) w) (h2:wpJ P ops W Q rest js ks C (a.put o.dst v)) :
 wpJ P ops W Q (o :: rest) (Zv own v :: js) ks C a:=by
 unfold wpJ jStep
 rw [if_pos hw]
 refine ⟨fun w hW hk _=>?_,fun x=>Zcv _ _ ks _ _ _ (fun k hk=>List.mem_cons_of_mem _ hk) h2⟩
 rw [h1 w hW hk]
 exact ⟨(),rfl,trivial,(fun h=>by cases h),fun _=>Grows.refl w⟩
theorem j_val (v:Value) (hw:Region.wanted o (yielded ops a.tmps)=true) (h1:∀ w,Zc own W w→(execOp a.eval o).run P w=.ok (.value v) w) (h2:wpJ P ops W Q rest js ks C (a.put o.dst v)) :
 wpJ P ops W Q (o :: rest) (Zv own v :: js) ks C a:=Zwg v hw (fun w hW _=>h1 w hW) h2
theorem Zvu (f:FuncId) (args:Array Value) (v:Value) (hw:Region.wanted o (yielded ops a.tmps)=true) (h1:∀ w,Zc own W w→(execOp a.eval o).run P w=.ok (.enter f args) w)
 (hc:∀ w,Zc own W w→ks.for (o.looksAt ops) w→Calls P f args w fun e w'=>e=.returned v∧Grows w w') (h2:wpJ P ops W Q rest js ks C (a.put o.dst v)) :
 wpJ P ops W Q (o :: rest) (Zv own v :: js) ks C a:=by
 unfold wpJ jStep
 rw [if_pos hw]
 refine ⟨fun w hW hk _=>?_,fun x=>Zcv _ _ ks _ _ _ (fun k hk=>List.mem_cons_of_mem _ hk) h2⟩
 rw [h1 w hW]
 exact (hc w hW hk).mono fun e w' ⟨he,hg⟩=>⟨(),he,trivial,(fun h=>by cases h),fun _=>hg⟩
theorem Zqq (f:FuncId) (args:Array Value) (v:Value) {C':World→Prop} {hC':∀ w w',C' w→Grows w w'→C' w'} (hw:Region.wanted o (yielded ops a.tmps)=true) (h1:∀ w,Zc own W w→(execOp a.eval o).run P w=.ok (.enter f args) w)
 (hc:∀ w,Zc own W w→C w→Calls P f args w fun e w'=>e=.returned v∧Zc own w w'∧C' w') (h2:wpJ P ops W Q rest js ks C' (a.put o.dst v)) :
 wpJ P ops W Q (o :: rest) (wrJob own v C' hC' :: js) ks C a:=by
 unfold wpJ jStep
 rw [if_pos hw]
 refine ⟨fun w hW _ hC=>?_,fun x=>Zcv _ _ ks _ _ _ (fun k hk=>List.mem_cons_of_mem _ hk) h2⟩
 rw [h1 w hW]
 exact (hc w hW (hC rfl)).mono fun e w' ⟨he,hs,hc'⟩=>⟨(),he,trivial,fun _=>⟨hs,hc'⟩,fun h=>by cases h⟩
theorem Zvv (t:TypeId) (cs:Array Value) (n:Nat) (hown:∀ k,own k→k < W.heap.size) (hw:Region.wanted o (yielded ops a.tmps)=true) (h1:∀ w,Zc own W w→(execOp a.eval o).run P w=.ok (.value (.slice (some ⟨w.heap.size,0,none⟩) n n)) (w.alloc (.cells cs t)))
 (h2:∀ g,wpJ P ops W Q rest js ((o.dst,fun w=>Whole w g t cs∧¬ own g) :: ks) C (a.put o.dst (.slice (some ⟨g,0,none⟩) n n))) :
 wpJ P ops W Q (o :: rest) (Zqp own t cs n :: js) ks C a:=by
 unfold wpJ jStep
 rw [if_pos hw]
 refine ⟨fun w hW hk _=>?_,fun g=>h2 g⟩
 rw [h1 w hW]
 exact ⟨w.heap.size,rfl,⟨Whole.made _ _ _,fun h=>by have:=hown _ h;have:=hW.size;omega⟩,(fun h=>by cases h),fun _=>Za _ _⟩
theorem Zgf (h:∀ w,Zc own W w→ks.all w→C w→Q a w):wpJ (G:=Grows) (E:=Zc own) P ops W Q [] js ks C a:=h
theorem Zjd (hw:Region.wanted o (yielded ops a.tmps)=true) (s x:Operand) (t:TypeId) (ho:o.op=.call { callee:=.builtin .append,args:=#[s,x],argTypes:=#[t,t] })
 {base B:Nat} {e:TypeId} {i:TypeInfo} {z:Value} {bytes:Nat} (ht:P.underlying t=some (.slice e)) (hi:P.info? e=some i) (hz:i.zero=some z) (hsize:i.size=1) (hby:i.bytes=bytes) (hzs:z.cells.size=1)
 {A0:Option Addr} {n c0:Nat} {xs:List Value} (hs:a.eval s=.slice A0 n c0) (v0:Value)
 (hcls:∀ w,C w→w.ownsRow base e 1 (.slice A0 n c0) n xs∧((Value.slice A0 n c0).ownBlock=v0.ownBlock∨∃ g,(Value.slice A0 n c0).ownBlock=some g∧B≤g)) (hB:B≤W.heap.size) (hown:∀ g,v0.ownBlock=some g→own g) (hown2:∀ w g,Zc own W w→(Value.slice A0 n c0).ownBlock=some g→g < W.heap.size→own g)
 {A:Option Addr} {m c:Nat} {news:List Value} (hx:a.eval x=.slice A m c) (hr:∀ w,Zc own W w→ks.for (o.looksAt ops) w→∃ Bx,Row w Bx A m news) (hbare:A=none→c=0) (h1:∀ u∈news,u.oneCell'=true)
 (k:Nat) (hk:n+m=k) (ys:List Value) (hys:xs++news=ys) (h63:k≤maxLen) (hbytes:k*bytes≤140737488355328) (hbase:base≤W.heap.size) (hnew:∀ w g,Zc own W w→C w→(Value.slice A0 n c0).ownBlock=some g→W.heap.size≤g→own g)
 (h:∀ A' c',wpJ P ops W Q rest js ks (fun w=>w.ownsRow base e 1 (.slice A' k c') k ys∧((Value.slice A' k c').ownBlock=v0.ownBlock∨∃ g,(Value.slice A' k c').ownBlock=some g∧B≤g)) (a.put o.dst (.slice A' k c'))) :
 wpJ P ops W Q (o :: rest) (Znj own base e v0 B k ys :: js) ks C a:=by
 subst hk hys
 unfold wpJ jStep
 rw [if_pos hw]
 refine ⟨fun w hW hkn hC=>?_,fun p=>Zcv _ _ ks _ _ _ (fun k hk=>List.mem_cons_of_mem _ hk) (h p.1 p.2)⟩
 obtain ⟨hrow,hblk⟩:=hcls w (hC rfl)
 obtain ⟨Bx,hr'⟩:=hr w hW hkn
 obtain ⟨v',w',hrun,h2,h3,h4⟩:=Jh (P:=P) (ty:=o.type) ht hi hz hsize hby hzs hrow hr' hbare h1 h63 hbytes (Nat.le_trans hbase hW.size)
 obtain ⟨A',c',rfl,_⟩:=Zo h2
 have hex:(execOp a.eval o).run P w=.ok (.value (.slice A' (n+m) c')) w':=by
  unfold execOp
  simp only [ho,resolve,invoke,builtin,Sem.run_bind,Sem.run_pure,Result.andThen_ok,List.map_toArray,List.map_cons,List.map_nil,hs,hx,hrun]
 rw [hex]
 refine ⟨(A',c'),rfl,trivial,fun _=>⟨?_,h2,?_⟩,fun h=>by cases h⟩
 ·refine ⟨h3.os,h3.tape,h3.output,h3.size,fun q hq ho=>h3.block q hq fun e=>?_⟩
  rcases Nat.lt_or_ge q W.heap.size with hlt | hge
  ·exact ho (hown2 w q hW e.symm hlt)
  ·exact ho (hnew w q hW (hC rfl) e.symm hge)
 ·rcases h4 with h4 | h4
  ·exact h4 ▸ hblk
  ·exact .inr ⟨_,h4,Nat.le_trans hB hW.size⟩
end
theorem Zae (own:Nat→Prop) (w:World):Zc own w { w with drawn:=w.drawn+1 }:=⟨rfl,rfl,rfl,Nat.le_refl _,fun _ _ _=>rfl⟩
end Go.Proofs.YtkelafkbmnjpeaaGreat
