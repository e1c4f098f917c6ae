import Derived.Test.YtkelafkbmnjpeaaGreatMG01
set_option linter.unusedSimpArgs false
set_option linter.unusedVariables false
namespace Go.Proofs.YtkelafkbmnjpeaaGreat
open Go.RowKit
section
variable {P:Program} {ops:Array Oper} {E:World→World→Prop} {W:World} {Q:Exit→Act→World→Prop}
theorem Zb5 (tr:∀ a b c,E a b→E b c→E a c):∀ (l:List Oper) (Fs:List (Fact E)) (ks:Known) (a:Act) (w:World),E W w→ks.all w→(∀ k∈ks,∀ w w',k.2 w→E w w'→k.2 w')→wpF P ops E W (fun a w=>Q .normal a w) l Fs ks a→wpList P ops Q l a w
 | [],_,ks,a,w,hw,hk,_,h=>h w hw hk
 | o :: l,[],_,_,_,_,_,_,h=>h.elim
 | o :: l,F :: Fs,ks,a,w,hw,hk,hs,h=>by
   have h:fStep P ops E W F o (wpF P ops E W (fun a w=>Q .normal a w) l Fs) ks a:=h
   have go:∀ x w',E w w'→F.R x w'→(∀ x,wpF P ops E W (fun a w=>Q .normal a w) l Fs ((o.dst,F.R x) :: ks) (a.put o.dst (F.val x)))→wpList P ops Q l (a.put o.dst (F.val x)) w':=fun x w' hE hR h2=>by
    refine Zb5 tr l Fs _ _ w' (tr _ _ _ hw hE) (fun k hk'=>?_) (fun k hk'=>?_) (h2 x)
    ·rcases List.mem_cons.1 hk' with rfl | hk'
     ·exact hR
     ·exact hs k hk' w w' (hk k hk') hE
    ·rcases List.mem_cons.1 hk' with rfl | hk'
     ·exact fun w w'=>F.stays x w w'
     ·exact hs k hk'
   unfold fStep at h
   unfold wpList
   split at h
   ·rename_i hx
    rw [if_pos hx]
    left
    have hg:=h.1 w hw (Known.all_for hk)
    unfold gives at hg
    unfold Oper.wp
    generalize (execOp a.eval o).run P w=r at hg ⊢
    match r,hg with
    | .ok (.value u) w',hg =>
      obtain ⟨hE,x,rfl,hR⟩:=hg
      exact go x w' hE hR h.2
    | .ok .skip w',hg =>
      obtain ⟨hE,x,hu,hR⟩:=hg
      show wpList P ops Q l (a.put o.dst undef) w'
      rw [hu]
      exact go x w' hE hR h.2
    | .ok (.enter f args) w',hg =>
      refine Calls.mono hg ?_
      rintro e w'' ⟨hE,x,rfl,hR⟩
      exact go x w'' hE hR h.2
   ·rename_i hx
    rw [if_neg hx]
    exact Zb5 tr l Fs ks _ w hw hk hs h
theorem Zb6 {id:Nat} {a:Act} {w:World} {l:List Oper} (Fs:List (Fact E)) (tr:∀ a b c,E a b→E b c→E a c) (hr:E w w) (h:wpF P l.toArray E w (fun a w=>Q .normal a w) l Fs [] a):(Code.region id l.toArray false).wp P Q a w :=
 wp_region_lit (Zb5 tr l Fs [] a w hr (fun k hk=>by cases hk) (fun k hk=>by cases hk) h)
end
end Go.Proofs.YtkelafkbmnjpeaaGreat
