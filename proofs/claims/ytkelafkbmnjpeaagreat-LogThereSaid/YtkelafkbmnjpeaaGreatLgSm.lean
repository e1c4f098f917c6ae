import Derived.Test.YtkelafkbmnjpeaaGreatMG24
import Derived.Test.YtkelafkbmnjpeaaGreatMG25
import Derived.Test.YtkelafkbmnjpeaaGreatMG22
import Derived.Test.YtkelafkbmnjpeaaGreatMG26
set_option linter.unusedSimpArgs false
set_option linter.unusedVariables false
set_option maxHeartbeats 4000000
set_option maxRecDepth 100000
namespace Go.Proofs.YtkelafkbmnjpeaaGreat
open Go.Lib (hid)
open Go.RowKit Go.Maps Go.WideMaps

theorem Zem {w:World} {base:Nat} {A:Option Addr} {n c:Nat} {ls:List (List UInt8)} (h:w.ownsRow base 9 1 (.slice A n c) n (ls.map strV)) (hs:∀ s∈ls,s.length≤9223372036854775807):Strs w A n c ls:=by
 refine ⟨Row.owned h,?_,fun hA=>?_,hs⟩
 ·rcases h.2 with ⟨h1,h2⟩ | ⟨g,cap,_,h1,_,_,h2,_⟩
  ·omega
  ·injection h1 with _ _ h1;omega
 ·rcases h.2 with ⟨h1,h2⟩ | ⟨g,cap,_,h1,_⟩
  ·injection h1
  ·injection h1 with h1 _ _;rw [hA] at h1;cases h1
section
variable {B d l n c K T S:Nat} {w0 w:World} {out:Nat→Prop} {A:Option Addr} {L:Lg}
def LgF (w:World) (d l:Nat) (A:Option Addr) (n c:Nat) (li nx la:Int):Prop :=
 w.cell? { block:=l,off:=0 }=some (.pointer (some ⟨d,0,none⟩))∧w.cell? { block:=l,off:=1 }=some (.int .i64 li)∧w.cell? { block:=l,off:=2 }=some (.slice A n c)∧w.cell? { block:=l,off:=3 }=some (.int .i64 nx)∧w.cell? { block:=l,off:=4 }=some (.int .i64 la)
theorem LgAt.fields (h:LgAt B w0 w d l out A n c L) {w':World} (hg:Grows w w'):LgF w' d l A n c L.limit L.man.next L.last:=by
 have hw:=hg.whole h.whole
 unfold lgC at hw
 exact ⟨hw.cell 0,hw.cell 1,hw.cell 2,hw.cell 3,hw.cell 4⟩
theorem Zen (h:LgAt B w0 w d l out A n c L) (hr:LgR L) :
 Calls Tryz.prog 35 #[.pointer (some ⟨l,0,none⟩)] w fun e w'=>∃ A' c',e=.returned (.slice A' n c')∧w'.ownsRow w.heap.size 3 1 (.slice A' n c') n (L.man.segs.map iV)∧Grows w w':=by
 obtain ⟨z0,z1,z2,z3,z4⟩:=h.fields (Grows.refl w)
 have HC:=hid (Zoo B A n c L.man.segs w h.own (by have:=h.ints.len;have:=hr.few;omega))
 clear h hr
 go_enter Tryz.func35,Tryz.ntmps35
 go_wp2_with (fail)
 refine HC.out.mono ?_
 rintro e w1 ⟨A1,c1,rfl,ho,hg⟩
 have HX:=hid (And.intro ho hg)
 clear ho hg
 go_wp2_with (fail)
 go_ret
 exact ⟨A1,c1,rfl,HX.out.1,HX.out.2⟩
theorem Zix (h:LgAt B w0 w d l out A n c L) :
 Calls Tryz.prog 32 #[.pointer (some ⟨l,0,none⟩)] w fun e w'=>e=.returned (.tuple #[.int .i64 (if L.last=-1 then 0 else L.last),.bool (!decide (L.last=-1))])∧w=w':=by
 obtain ⟨z0,z1,z2,z3,z4⟩:=h.fields (Grows.refl w)
 clear h
 obtain ⟨la,hla⟩:∃ la,L.last=la:=⟨_,rfl⟩
 rw [hla] at z4 ⊢
 clear hla
 by_cases hl:la=-1
 ·subst hl
  go_enter Tryz.func32,Tryz.ntmps32
  go_wp2_with (fail)
  go_ret2
  exact ⟨rfl,rfl⟩
 ·have hlb:(la==-1)=false:=by rw [beq_eq_false_iff_ne];exact hl
  rw [if_neg hl,decide_eq_false hl]
  clear hl
  go_enter Tryz.func32,Tryz.ntmps32
  go_wp2_with (fail)
  go_ret2
  exact ⟨rfl,rfl⟩
theorem Zhk (x:Int) (h:LgAt B w0 w d l out A n c L) (hr:LgR L) :
 Calls Tryz.prog 80 #[.pointer (some ⟨l,0,none⟩),.int .i64 x] w fun e w'=>e=.returned (.bool (L.has x))∧Grows w w':=by
 obtain ⟨z0,z1,z2,z3,z4⟩:=h.fields (Grows.refl w)
 have hc:=Zgd B A n c L.man.segs x w h.own hr.rise (by have:=h.ints.len;have:=hr.few;omega)
 unfold Lg.has
 obtain ⟨b,hb⟩:∃ b,decide (x∈L.man.segs)=b:=⟨_,rfl⟩
 rw [hb] at hc ⊢
 have HC:=hid hc
 clear h hr hc hb
 go_enter Tryz.func80,Tryz.ntmps80
 go_wp2_with (fail)
 refine HC.out.mono ?_
 rintro e w1 ⟨k,rfl,hg⟩
 have HG:=hid hg
 clear hg
 go_wp2_with (fail)
 go_ret
 exact ⟨rfl,HG.out⟩

theorem nm_of (k x:Int) (w:World):Calls Tryz.prog 73 #[.int .i64 k,.int .i64 x] w fun e w'=>e=.returned (.string ⟨(ofP k x).toArray⟩)∧Grows w w':=Zg2 k x w
theorem Zom (x:Int):(nmS x).length≤1000000:=by have:=Yw x;omega
theorem LgAt.dop {f:FuncId} {args:Array Value} {v:Ending} {m':Dk} (h:LgAt B w0 w d l out A n c L) (hc:∀ out',(∀ k,lgO l A out k→out' k)→DkIn B w0 w d out' L.dk→Calls Tryz.prog f args w fun e w'=>e=v∧DkIn B w0 w' d out' m'∧Stays B out' w w') :
 Calls Tryz.prog f args w fun e w'=>e=v∧LgAt B w0 w' d l out A n c (L.on m')∧Stays B out w w':=by
 refine (hc _ (fun k hk=>hk) h.dk).mono ?_
 rintro e w' ⟨rfl,h1,h2⟩
 obtain ⟨k1,k2,k3,k4,k5,k6⟩:=h
 refine ⟨rfl,⟨h1,?_,?_,k4,k5,k6⟩,Zt h2 fun k hk=>.inl hk⟩
 ·exact Zo h2 k2 (.inr (.inl rfl))
 ·refine Zz k3 fun k hk=>h2.same k ?_ fun e=>e.2 (.inr (.inr ?_))
  ·exact (k3.lt k hk).2
  ·rcases Yk k3 with ⟨rfl,_⟩ | ⟨g,rfl,_⟩
   ·cases hk
   ·injection hk with hk
    exact ⟨⟨g,0,none⟩,rfl,hk.symm⟩
theorem LgAt.dopO {f:FuncId} {args:Array Value} {v:Ending} {m':Dk} (h:LgAt B w0 w d l out A n c L) (hc:Calls Tryz.prog f args w fun e w'=>e=v∧DkIn B w0 w' d (lgO l A out) m'∧Stays B (lgO l A out) w w') :
 Calls Tryz.prog f args w fun e w'=>e=v∧Stays B (lgO l A out) w w'∧LgAt B w0 w' d l out A n c (L.on m'):=by
 refine hc.mono ?_
 rintro e w' ⟨rfl,h1,h2⟩
 obtain ⟨k1,k2,k3,k4,k5,k6⟩:=h
 refine ⟨rfl,h2,h1,Zo h2 k2 (.inr (.inl rfl)),?_,k4,k5,k6⟩
 refine Zz k3 fun k hk=>h2.same k (k3.lt k hk).2 fun e=>e.2 (.inr (.inr ?_))
 rcases Yk k3 with ⟨rfl,_⟩ | ⟨g,rfl,_⟩
 ·cases hk
 ·injection hk with hk
  exact ⟨⟨g,0,none⟩,rfl,hk.symm⟩
theorem Ziy (w:World) (h:LgAt B w0 w d l out A n c L) (ok:DkOk K L.dk) (hK:K≤90000000) :
 Calls Tryz.prog 37 #[.pointer (some ⟨l,0,none⟩)] w fun e w'=>e=.returned (.int .i64 (Z5 L).2)∧LgAt B w0 w' d l out A n c (Z5 L).1∧Stays B out w w':=by
 have HF:=hid (fun w' (hg:Grows w w')=>h.fields hg)
 obtain ⟨z0,z1,z2,z3,z4⟩:=h.fields (Grows.refl w)
 have H:=hid h
 obtain ⟨la,hla⟩:∃ la,L.last=la:=⟨_,rfl⟩
 obtain ⟨r,hr⟩:∃ r,Z5 L=r:=⟨_,rfl⟩
 rw [hr]
 unfold Z5 at hr
 rw [hla] at z4 HF hr
 by_cases hl:la=-1
 ·subst hl
  rw [if_pos rfl] at hr
  subst hr
  clear h hla
  go_enter Tryz.func37,Tryz.ntmps37
  go_wp2_with (fail)
  go_ret
  exact ⟨rfl,H.out,Stays.grows (Grows.refl _)⟩
 ·have hlb:(la==-1)=false:=by rw [beq_eq_false_iff_ne];exact hl
  rw [if_neg hl] at hr
  have hn:=fun w'=>nm_of 1 la w'
  have hd:=fun w' (hg:Grows w w')=>(h.grow hg).dop fun out' _ hk=>Zkq (nmS la) hk ok (by omega) (Zom la) rfl rfl
  have hnm:nmS la=ofP 1 la:=rfl
  rw [←hnm] at hn
  obtain ⟨s,hs⟩:∃ s:ByteArray,(⟨(nmS la).toArray⟩:ByteArray)=s:=⟨_,rfl⟩
  obtain ⟨q,hq⟩:∃ q,L.dk.sync (nmS la)=q:=⟨_,rfl⟩
  simp only [hs] at hn hd
  simp only [hq] at hd hr
  subst hr
  have HN:=hid hn
  have HD:=hid hd
  clear h hla hl hn hd hnm hs hq z0 z1 z2 z3
  go_enter Tryz.func37,Tryz.ntmps37
  go_wp2_with (fail)
  clear z4
  refine Zf (E:=Grows) 9 [Za (.pointer (some ⟨l,0,none⟩)),Za (.pointer (some ⟨l,0,none⟩)),Za (.pointer (some ⟨l,0,none⟩)),Za (.pointer (some ⟨d,0,none⟩)),Za (.pointer (some ⟨l,0,none⟩)),Za (.pointer (some ⟨l,0,none⟩)),Za (.pointer (some ⟨l,4,none⟩)),Za (.int .i64 la),Za (.string s)] mixed (by kernel_rfl) (fun _ _ _=>Grows.trans) (Ze _) ?_
  simp only [List.take_succ_cons,List.take_zero,List.drop_succ_cons,List.drop_zero]
  iterate 3
   refine f_val _ (by rfl) ?_ ?_
   ·intro w' hC;clear hC;go_simp
   simp only [Pu]
  refine f_val _ (by rfl) ?_ ?_
  ·intro w' hC;obtain ⟨z0,z1,z2,z3,z4⟩:=HF.out w' hC;clear hC;go_simp
  simp only [Pu]
  iterate 3
   refine f_val _ (by rfl) ?_ ?_
   ·intro w' hC;clear hC;go_simp
   simp only [Pu]
  refine f_val _ (by rfl) ?_ ?_
  ·intro w' hC;obtain ⟨z0,z1,z2,z3,z4⟩:=HF.out w' hC;clear hC;go_simp
  simp only [Pu]
  refine Zv 73 #[.int .i64 1,.int .i64 la] (.string s) (by rfl) (by intro w' hC;clear hC;go_simp) ?_ ?_
  ·intro w' hC hks;exact HN.out w'
  simp only [Pu]
  refine Zs ?_
  intro w2 hC hks
  have HCw2:=hid hC
  clear hC hks
  go_wp2_with (fail)
  refine (HD.out w2 HCw2.out).mono ?_
  rintro e w3 ⟨rfl,hd,hst⟩
  have HX:=hid (And.intro hd hst)
  clear hd hst
  go_wp2_with (fail)
  go_ret
  exact ⟨rfl,HX.out.1,(Stays.grows HCw2.out).trans HX.out.2⟩
theorem Zub (L:Lg) (x:Int):fitsP L x=(!decide (L.last=-1)&&(decide ((L.dk.size (nmS L.last)).1≤13) || decide ((L.dk.size (nmS L.last)).1+x≤L.limit))):=rfl
theorem Zon (x:Int) (hx:0≤x∧x≤10000) (w:World) (h:LgAt B w0 w d l out A n c L) (ok:DkOk K L.dk) (hK:K≤90000000) :
 Calls Tryz.prog 85 #[.pointer (some ⟨l,0,none⟩),.int .i64 x] w fun e w'=>e=.returned (.bool (fitsP L x))∧Grows w w':=by
 have HF:=hid (fun w' (hg:Grows w w')=>h.fields hg)
 obtain ⟨z0,z1,z2,z3,z4⟩:=h.fields (Grows.refl w)
 obtain ⟨la,hla⟩:∃ la,L.last=la:=⟨_,rfl⟩
 obtain ⟨r,hr⟩:∃ r,fitsP L x=r:=⟨_,rfl⟩
 rw [hr]
 rw [Zub,hla] at hr
 rw [hla] at z4 HF
 by_cases hl:la=-1
 ·subst hl
  rw [decide_eq_true rfl] at hr
  simp only [Bool.not_true,Bool.false_and] at hr
  subst hr
  clear h hla
  go_enter Tryz.func85,Tryz.ntmps85
  go_wp2_with (fail)
  go_ret
  exact ⟨rfl,Grows.refl _⟩
 ·have hlb:(la==-1)=false:=by rw [beq_eq_false_iff_ne];exact hl
  rw [decide_eq_false hl] at hr
  simp only [Bool.not_false,Bool.true_and] at hr
  obtain ⟨⟨sv,sb⟩,hsz⟩:∃ q,L.dk.size (nmS la)=q:=⟨_,rfl⟩
  rw [hsz] at hr
  dsimp only at hr
  obtain ⟨li,hli⟩:∃ li,L.limit=li:=⟨_,rfl⟩
  rw [hli] at hr HF z1
  have hsv:0≤sv∧sv≤90000000:=by
   obtain ⟨own,G,h1,_⟩:=h.dk
   unfold Dk.size at hsz
   cases hf:Dir.find (nmS la) L.dk.names with
   | none=>rw [hf] at hsz;injection hsz with h2 _;omega
   | some f =>
     rw [hf] at hsz
     injection hsz with h2 _
     have:=(ok.bytes f (h1.find_lt (by unfold maxLen;have:=Yw la;omega) hf)).1
     omega
  have hw:IntKind.i64.wrap (sv+x)=sv+x:=IntWalk.i64_in _ ⟨by omega,by omega⟩
  have HS:=hid (fun w' (hg:Grows w w')=>Za8 w' la (h.grow hg).dk hsz)
  clear h hla hl hli hsz ok z0 z2 z3
  go_enter Tryz.func85,Tryz.ntmps85
  go_wp2_with (fail)
  clear z4 z1
  refine Zg (E:=Grows) [Za (.pointer (some ⟨l,0,none⟩)),Za (.pointer (some ⟨l,0,none⟩)),Za (.pointer (some ⟨l,0,none⟩)),Za (.pointer (some ⟨d,0,none⟩)),Za (.pointer (some ⟨l,0,none⟩)),Za (.pointer (some ⟨l,0,none⟩)),Za (.pointer (some ⟨l,4,none⟩)),Za (.int .i64 la),Za (.int .i64 sv),Za (.int .i64 sv)] (by kernel_rfl) (by kernel_rfl) (fun _ _ _=>Grows.trans) (Ze _) ?_
  iterate 3
   refine f_val _ (by rfl) ?_ ?_
   ·intro w' hC;clear hC;go_simp
   simp only [Pu]
  refine f_val _ (by rfl) ?_ ?_
  ·intro w' hC;obtain ⟨z0,z1,z2,z3,z4⟩:=HF.out w' hC;clear hC;go_simp
  simp only [Pu]
  iterate 3
   refine f_val _ (by rfl) ?_ ?_
   ·intro w' hC;clear hC;go_simp
   simp only [Pu]
  refine f_val _ (by rfl) ?_ ?_
  ·intro w' hC;obtain ⟨z0,z1,z2,z3,z4⟩:=HF.out w' hC;clear hC;go_simp
  simp only [Pu]
  refine Zv 95 #[.pointer (some ⟨d,0,none⟩),.int .i64 la] (.int .i64 sv) (by rfl) (by intro w' hC;clear hC;go_simp) ?_ ?_
  ·intro w' hC hks;exact HS.out w' hC
  simp only [Pu]
  refine Zko _ (by rfl) ?_ ?_
  ·intro w' hC hks;clear hC hks;go_simp
  simp only [Pu]
  intro w2 hC _
  have HCw2:=hid hC
  clear hC
  obtain ⟨z0,z1,z2,z3,z4⟩:=HF.out w2 HCw2.out
  clear z0 z2 z3 z4
  by_cases h13:sv≤13
  ·rw [decide_eq_true h13,Bool.true_or] at hr
   subst hr
   go_wp2_with (fail)
   go_ret
   exact ⟨rfl,HCw2.out⟩
  ·rw [decide_eq_false h13,Bool.false_or] at hr
   by_cases hle:sv+x≤li
   ·rw [decide_eq_true hle] at hr
    subst hr
    go_wp2_with (fail)
    go_ret
    exact ⟨rfl,HCw2.out⟩
   ·rw [decide_eq_false hle] at hr
    subst hr
    go_wp2_with (fail)
    go_ret
    exact ⟨rfl,HCw2.out⟩
def GetTo (w:World) (r:Rc×Int) (e:Ending) (w':World):Prop:=∃ LA ln lc BA bn bc,e=.returned (.tuple #[rcV r.1 LA ln lc BA bn bc,.int .i64 r.2])∧RcOwn w' w.heap.size LA ln lc BA bn bc r.1∧Grows w w'
theorem Zhl (x y:Int) (hy:In64 y) (w:World) (h:LgAt B w0 w d l out A n c L) (hr:LgR L) (ok:DkOk K L.dk) (hK:K≤90000000) :
 Calls Tryz.prog 44 #[.pointer (some ⟨l,0,none⟩),.int .i64 x,.int .i64 y] w (GetTo w (lgetP L x y)):=by
 have HF:=hid (fun w' (hg:Grows w w')=>h.fields hg)
 have HH:=hid (fun w' (hg:Grows w w')=>Zhk x (h.grow hg) hr)
 have HZM:=hid (Whole.made w 39 #[.int .i64 0,.string ⟨#[]⟩,.int .i64 0,.int .i64 0,.int .i64 0,.slice none 0 0,.slice none 0 0])
 have HGA:=hid (Zb w (.cells #[.int .i64 0,.string ⟨#[]⟩,.int .i64 0,.int .i64 0,.int .i64 0,.slice none 0 0,.slice none 0 0] 39))
 have hg:=fun w' (hg:Grows w w')=>Znv w' x y (h.grow hg).dk ok (by omega) (by unfold In64 at hy;exact hy)
 unfold lgetP
 obtain ⟨b,hb⟩:∃ b,L.has x=b:=⟨_,rfl⟩
 rw [hb] at HH ⊢
 cases b with
 | false =>
   rw [if_neg (by decide)]
   clear h hr hg ok hb
   go_enter Tryz.func44,Tryz.ntmps44
   go_wp2_with (fail)
   refine (HH.out _ HGA.out).mono ?_
   rintro e w1 ⟨rfl,hg⟩
   have HG:=hid (Grows.trans HGA.out hg)
   have HZ:=hid (hg.whole HZM.out)
   clear hg
   have zc0:=HZ.out.cell 0
   have zf0:=HZ.out.free 0
   have zc1:=HZ.out.cell 1
   have zf1:=HZ.out.free 1
   have zc2:=HZ.out.cell 2
   have zf2:=HZ.out.free 2
   have zc3:=HZ.out.cell 3
   have zf3:=HZ.out.free 3
   have zc4:=HZ.out.cell 4
   have zf4:=HZ.out.free 4
   have zc5:=HZ.out.cell 5
   have zf5:=HZ.out.free 5
   have zc6:=HZ.out.cell 6
   have zf6:=HZ.out.free 6
   simp only [Gt] at zc0 zc1 zc2 zc3 zc4 zc5 zc6
   go_wp2_with (fail)
   obtain ⟨W,hW,hwh,hwt⟩:=Y6 HZ.out (.int .i64 0) (.string ⟨#[]⟩) (.int .i64 0) (.int .i64 0) (.int .i64 0) (.slice none 0 0) (.slice none 0 0)
   rw [hW]
   have hbW:=hwt.below (by have:=HZ.out.lt;omega)
   clear hW
   refine bodyPost_ret (Zn rfl _ _ w.heap.size _ _ _ _ _ _ _ _ (.int .i64 3) rfl rfl hwh) rfl ?_
   exact ⟨none,0,0,none,0,0,rfl,RcOwn.nil W _ 0 [] 0 0 0,Below.trans HG.out hbW⟩
 | true =>
   rw [if_pos rfl]
   obtain ⟨⟨q,er⟩,hq⟩:∃ q,getP L.dk x y=q:=⟨_,rfl⟩
   rw [hq] at hg ⊢
   have HGT:=hid hg
   clear h hr hg ok hb hq
   go_enter Tryz.func44,Tryz.ntmps44
   go_wp2_with (fail)
   refine (HH.out _ HGA.out).mono ?_
   rintro e w1 ⟨rfl,hg⟩
   obtain ⟨z0,z1,z2,z3,z4⟩:=HF.out w1 (Grows.trans HGA.out hg)
   have HG:=hid (Grows.trans HGA.out hg)
   have HZ1:=hid (hg.whole HZM.out)
   clear hg
   go_wp2_with (fail)
   refine (HGT.out w1 HG.out).mono ?_
   rintro e w2 ⟨LA,ln,lc,BA,bn,bc,rfl,hin,hg⟩
   have HX:=hid (And.intro hin (Grows.trans HG.out hg))
   have HZ:=hid (hg.whole HZ1.out)
   clear hin hg
   have zc0:=HZ.out.cell 0
   have zf0:=HZ.out.free 0
   have zc1:=HZ.out.cell 1
   have zf1:=HZ.out.free 1
   have zc2:=HZ.out.cell 2
   have zf2:=HZ.out.free 2
   have zc3:=HZ.out.cell 3
   have zf3:=HZ.out.free 3
   have zc4:=HZ.out.cell 4
   have zf4:=HZ.out.free 4
   have zc5:=HZ.out.cell 5
   have zf5:=HZ.out.free 5
   have zc6:=HZ.out.cell 6
   have zf6:=HZ.out.free 6
   simp only [Gt] at zc0 zc1 zc2 zc3 zc4 zc5 zc6
   unfold rcV
   go_wp2_with (fail)
   obtain ⟨W,hW,hwh,hwt⟩:=Y6 HZ.out (.int .i64 q.kind) (.string ⟨q.key.toArray⟩) (.int .i64 q.id) (.int .i64 q.no) (.int .i64 q.size) (.slice LA ln lc) (.slice BA bn bc)
   rw [hW]
   have hlt:=HZ1.out.lt
   have hbW:=hwt.below (by have:=HZ.out.lt;omega)
   clear hW
   refine bodyPost_ret (Zn rfl _ _ w.heap.size _ _ _ _ _ _ _ _ (.int .i64 er) rfl rfl hwh) rfl ?_
   exact ⟨LA,ln,lc,BA,bn,bc,rfl,(HX.out.1.turn hwt hlt).from HG.out.size,Below.trans HX.out.2 hbW⟩
theorem Zkh (w:World) (h:LgAt B w0 w d l out A n c L) (hr:LgR L) (ok:LOk T S L.dk) (hT:T≤100000) (hS:S≤100000000) :
 Calls Tryz.prog 74 #[.pointer (some ⟨l,0,none⟩)] w fun e w'=>e=.returned (.int .i64 (lnumP L))∧Grows w w':=by
 obtain ⟨z0,z1,z2,z3,z4⟩:=h.fields (Grows.refl w)
 have hnl:L.dk.names.length≤T:=by obtain ⟨P,h⟩:=ok;exact h.names
 have hli:=Zpd h.dk ok.ok (by omega)
 have hsm:=ok.small
 obtain ⟨ns,hns⟩:∃ ns,L.dk.names.map (·.1)=ns:=⟨_,rfl⟩
 obtain ⟨N,hN⟩:∃ N,L.dk.names.length=N:=⟨_,rfl⟩
 rw [hns,hN] at hli
 rw [hns] at hsm
 rw [hN] at hnl
 have hnsl:ns.length=N:=by rw [←hns,List.length_map];exact hN
 have hnum:lnumP L=nextO (setP (numsP ns)) L.man.next:=by unfold lnumP;rw [hns];exact Zm0 (fun x=>((Zmm _).2 x).symm) _
 obtain ⟨xs,hxs⟩:∃ xs,setP (numsP ns)=xs:=⟨_,rfl⟩
 rw [hxs] at hnum
 have hnx:=hr.next
 obtain ⟨nx,hnx0⟩:∃ nx,L.man.next=nx:=⟨_,rfl⟩
 rw [hnx0] at hnum hnx z3
 rw [hnum]
 have hxb:∀ x∈xs,0≤x∧x≤99999999:=by
  intro x hx
  rw [←hxs,(Zmm _).2,Zs6] at hx
  obtain ⟨s,_,hs⟩:=hx
  have:=Zg3 s _ _ hs
  omega
 have hxl:xs.length≤1000000:=by
  rw [←hxs]
  have h1:=Znx (numsP ns)
  have h2:=Zk7 ns
  omega
 have HL:=hid hli
 have HX:=hid (And.intro hxs (And.intro hxb (And.intro hnx (show N≤1000000 by omega))))
 have HXL:=hid hxl
 have HSM:=hid (show ∀ s∈ns,s.length≤9223372036854775807 from fun s hs=>by have:=hsm s hs;omega)
 clear h hr ok hli hns hN hnsl hnum hxs hnx hnx0 hxb hnl hxl hsm hT hS
 go_enter Tryz.func74,Tryz.ntmps74
 go_wp2_with (fail)
 refine HL.out.mono ?_
 rintro e w1 ⟨A1,c1,rfl,ho,hg⟩
 have hsg:=Zta A1 N c1 ns w1 (Zem ho HSM.out) HX.out.2.2.2
 rw [HX.out.1] at hsg
 have HSG:=hid hsg
 have HG1:=hid hg
 clear ho hg hsg
 go_wp2_with (fail)
 refine HSG.out.mono ?_
 rintro e w2 ⟨A2,c2,rfl,ho,hg⟩
 have HI:=hid (Ints.owned (xs:=xs) ho)
 have HG2:=hid (Grows.trans HG1.out hg)
 obtain ⟨N2,hN2⟩:∃ N2,xs.length=N2:=⟨_,rfl⟩
 rw [hN2] at HI ⊢
 have HN2:=hid hN2
 clear ho hg hN2
 go_wp2_with (fail)
 go_loop [3,18] (fun v i=>∃ j:Nat,j≤N2∧i=.int .i64 (j:Nat)∧v=.int .i64 (nextO (xs.take j) nx)) (fun _ i=>N2 - (intOf i).toNat)
 case atStart=>exact ⟨0,by omega,rfl,rfl⟩
 case round =>
  obtain ⟨j,hj,rfl,rfl⟩:=hrel
  by_cases hlt:j < N2
  ·have hlt':(j:Int) < (N2:Int):=by omega
   have hj0:(0:Int)≤(j:Int):=by omega
   obtain ⟨ad,x,rfl,hc,hx,_⟩:=HI.out.get hlt
   have hxb:=HX.out.2.1 x (List.mem_of_getElem? hx)
   have hxl:N2≤1000000:=by have:=HXL.out;have:=HN2.out;omega
   have e5:IntKind.i64.wrap ((j:Int)+1)=(j:Int)+1:=IntWalk.i64_in _ ⟨by omega,by omega⟩
   have e6:IntKind.i64.wrap (x+1)=x+1:=IntWalk.i64_in _ ⟨by omega,by omega⟩
   have hnext:nextO (xs.take (j+1)) nx=max (nextO (xs.take j) nx) (x+1):=by
    obtain ⟨hj',hx'⟩:=List.getElem?_eq_some_iff.1 hx
    rw [List.take_succ_eq_append_getElem hj',hx']
    unfold nextO
    rw [List.foldl_append]
    rfl
   obtain ⟨y,hy⟩:∃ y,nextO (xs.take j) nx=y:=⟨_,rfl⟩
   rw [hy] at hnext ⊢
   have HNX:=hid hnext
   clear hnext hy hx hxb
   go_wp2_with (fail)
   go_round
   case rel=>exact ⟨j+1,by omega,by first | rfl | go_num,by rw [HNX.out]⟩
   case measure=>simp [intOf];omega
  ·obtain rfl:j=N2:=by omega
   rw [show xs.take j=xs from List.take_of_length_le (by rw [HN2.out];omega)]
   go_wp2_with (fail)
   go_ret
   exact ⟨rfl,HG2.out⟩
end
end Go.Proofs.YtkelafkbmnjpeaaGreat
