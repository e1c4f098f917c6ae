/-
  Texts that the statements lean on, one behind the other.
-/
import Derived.Test.YtkelafkbmnjpeaaGreatMG33
import Derived.Test.YtkelafkbmnjpeaaGreatMG05
import Derived.Shelf.SlicesE.DeleteFunc
import Derived.Test.YtkelafkbmnjpeaaGreatProg
import Derived.Test.YtkelafkbmnjpeaaGreatMG24
import Derived.LoopTactic
import Derived.Lib.OwnBridge
set_option linter.unusedSimpArgs false
set_option linter.unusedVariables false
set_option maxHeartbeats 16000000
set_option maxRecDepth 100000
namespace Go.Proofs.YtkelafkbmnjpeaaGreat
open Go.Lib (hid)
open Go.RowKit Go.Maps Go.WideMaps
theorem Y0 {fn:Func} {t u v x:Tmp} (h:fn.results=#[.tmp t,.tmp u,.tmp v,.tmp x]) (tmps:Array Value) (P:Program) (w:World) :
 (results fn tmps).run P w=.ok (.tuple #[tmps.getD t undef,tmps.getD u undef,tmps.getD v undef,tmps.getD x undef]) w:=by
 simp [results,h]
theorem box7 {w:World} {g t:Nat} {u0 u1 u2 u3 u4 u5 u6:Value} (h:Whole w g t #[u0,u1,u2,u3,u4,u5,u6]):w.cell? { block:=g,off:=0 }=some u0∧w.cell? { block:=g,off:=1 }=some u1∧w.cell? { block:=g,off:=2 }=some u2∧w.cell? { block:=g,off:=3 }=some u3∧w.cell? { block:=g,off:=4 }=some u4∧w.cell? { block:=g,off:=5 }=some u5∧w.cell? { block:=g,off:=6 }=some u6 :=
 ⟨h.cell 0,h.cell 1,h.cell 2,h.cell 3,h.cell 4,h.cell 5,h.cell 6⟩
section
variable {B d l n c T S K:Nat} {w0 w:World} {out:Nat→Prop} {A:Option Addr} {L:Lg}
theorem LgAt.fieldsS (h:LgAt B w0 w d l out A n c L) {w':World} (hs:Stays B (lgO l A out) w w'):LgF w' d l A n c L.limit L.man.next L.last:=by
 have hw:=Zo hs h.whole (.inr (.inl rfl))
 unfold lgC at hw
 exact ⟨hw.cell 0,hw.cell 1,hw.cell 2,hw.cell 3,hw.cell 4⟩
def LaTo (B:Nat) (w0:World) (d l:Nat) (out:Nat→Prop) (w:World) (r:Lg×(Int×Int×Int×Int)) (e:Ending) (w':World):Prop:=e=.returned (.tuple #[.int .i64 r.2.1,.int .i64 r.2.2.1,.int .i64 r.2.2.2.1,.int .i64 r.2.2.2.2])∧LgIn B w0 w' d l out r.1∧Stays B out w w'
theorem Zt9 {r:Rc} (h:Zq r):sizeN (putR r).length=(frS r).length:=by
 rw [Zfx h,Zl]
 have:=Zmt h
 unfold Good at this
 unfold sizeN
 rw [if_pos (by omega)]
 omega
theorem Zhj (r:Rc) (LA:Option Addr) (ln lc:Nat) (BA:Option Addr) (bn bc:Nat) (w:World) (hin:∀ w',Below B w0 w'→RcIn w' LA ln lc BA bn bc r) (h:LgAt B w0 w d l out A n c L) (hr:LgR L) (ok:LOk T S L.dk) (hT:T≤80000) (hS:13≤S∧S≤10000000) (hroll:fitsP L (frS r).length=false→S≤100000) :
 Calls Tryz.prog 42 #[.pointer (some ⟨l,0,none⟩),.agg #[.int .i64 r.kind,.string ⟨r.key.toArray⟩,.int .i64 r.id,.int .i64 r.no,.int .i64 r.size,.slice LA ln lc,.slice BA bn bc]] w (LaTo B w0 d l out w (laddP L r)):=by
 have hm1:=Whole.made w 39 #[.int .i64 r.kind,.string ⟨r.key.toArray⟩,.int .i64 r.id,.int .i64 r.no,.int .i64 r.size,.slice LA ln lc,.slice BA bn bc]
 have hg1:=Zb w (.cells #[.int .i64 r.kind,.string ⟨r.key.toArray⟩,.int .i64 r.id,.int .i64 r.no,.int .i64 r.size,.slice LA ln lc,.slice BA bn bc] 39)
 have hz1:=World.size_alloc w (.cells #[.int .i64 r.kind,.string ⟨r.key.toArray⟩,.int .i64 r.id,.int .i64 r.no,.int .i64 r.size,.slice LA ln lc,.slice BA bn bc] 39)
 obtain ⟨w1,hw1⟩:∃ y,w.alloc (.cells #[.int .i64 r.kind,.string ⟨r.key.toArray⟩,.int .i64 r.id,.int .i64 r.no,.int .i64 r.size,.slice LA ln lc,.slice BA bn bc] 39)=y:=⟨_,rfl⟩
 rw [hw1] at hm1 hg1 hz1
 have hmo:=h.more hg1
 obtain ⟨out',hout'⟩:∃ o:Nat→Prop,(fun k=>out k∨(w.heap.size≤k∧k < w1.heap.size))=o:=⟨_,rfl⟩
 rw [hout'] at hmo
 have hob:out' w.heap.size:=by rw [←hout'];exact .inr ⟨Nat.le_refl _,by omega⟩
 obtain ⟨x0,x1,x2,x3,x4,x5,x6⟩:=box7 hm1
 have H1:=hid hmo
 have HG1:=hid hg1
 have HM1:=hid (And.intro hm1 hob)
 have HIN:=hid hin
 have HOU:=hid (show ∀ k,out k→out' k from fun k hk=>by rw [←hout'];exact .inl hk)
 have HNUM:=hid (show 13≤S∧S≤10000000∧T≤80000 by omega)
 have HRL:=hid hroll
 have HK:=hid (And.intro hr ok)
 have hri:=Zfb r LA ln lc BA bn bc w1 (hin w1 hmo.dk.low)
 obtain ⟨rr,hrr⟩:∃ rr,laddP L r=rr:=⟨_,rfl⟩
 rw [hrr]
 unfold laddP at hrr
 clear h hm1 hg1 hmo hin hroll hr ok hT hS hz1 hob hout'
 by_cases hright:Zq r
 rotate_left 1
 ·rw [decide_eq_false hright] at hri
  rw [if_neg hright] at hrr
  subst hrr
  have HRI:=hid hri
  clear hri hright
  go_enter Tryz.func42,Tryz.ntmps42
  go_wp2_with (fail)
  refine HRI.out.mono ?_
  rintro e w2 ⟨rfl,hg2⟩
  have HG2:=hid hg2
  clear hg2
  go_wp2_with (fail)
  refine bodyPost_ret (Y0 rfl _ _ _) rfl ?_
  exact ⟨rfl,((H1.out.grow HG2.out).less HOU.out).in,Stays.grows (Grows.trans HG1.out HG2.out)⟩
 rw [decide_eq_true hright] at hri
 rw [if_pos hright] at hrr
 have hpl:=Zfk r
 have hsz:=Zt9 hright
 have hfl:=Zc4 r
 obtain ⟨fl,hfle⟩:∃ fl,(frS r).length=fl:=⟨_,rfl⟩
 rw [hfle] at hrr hsz hfl HRL
 obtain ⟨pl,hple⟩:∃ pl,(putR r).length=pl:=⟨_,rfl⟩
 rw [hple] at hsz hpl
 have hfs:=fun w'=>Yo (pl:Int) w' (by omega) (by omega)
 rw [hsz] at hfs
 have HFS:=hid hfs
 have HPU:=hid (fun w' (hg:Grows w1 w')=>Zpv r LA ln lc BA bn bc w' (HIN.out w' (H1.out.grow hg).dk.low))
 have HFI:=hid (fun w' (hg:Grows w1 w')=>Zon (fl:Int) (by omega) w' (H1.out.grow hg) HK.out.2.ok (by have:=HNUM.out;omega))
 obtain ⟨fb,hfb⟩:∃ fb,fitsP L fl=fb:=⟨_,rfl⟩
 rw [hfb] at hrr HFI HRL
 have HRI:=hid hri
 have HPL:=hid hple
 clear hri hsz hfl hfs hpl hple hright hfle hfb
 go_enter Tryz.func42,Tryz.ntmps42
 go_wp2_with (fail)
 clear hw1
 refine HRI.out.mono ?_
 rintro e w2 ⟨rfl,hg2⟩
 obtain ⟨x0,x1,x2,x3,x4,x5,x6⟩:=box7 (Grows.whole hg2 HM1.out.1)
 have HG2:=hid (show Grows w1 w2 from hg2)
 clear hg2 HRI
 go_wp2_with (fail)
 refine (HPU.out w2 HG2.out).mono ?_
 rintro e w3 ⟨A3,m3,c3,rfl,ho3,hg3⟩
 have hm3:m3=pl:=by
  have:=(Sl.owned ho3).len
  rw [←HPL.out]
  omega
 subst hm3
 have HG3:=hid (Grows.trans HG2.out (show Grows w2 w3 from hg3))
 clear ho3 hg3 HPU
 go_wp2_with (fail)
 refine (HFS.out w3).mono ?_
 rintro e w4 ⟨rfl,rfl⟩
 go_wp2_with (fail)
 refine (HFI.out w3 HG3.out).mono ?_
 rintro e w5 ⟨rfl,hg5⟩
 have H5:=hid (H1.out.grow (Grows.trans HG3.out hg5))
 have HB5:=hid ((Grows.trans HG3.out hg5).whole HM1.out.1)
 have ST5:=hid (show Stays B out' w1 w5 from Stays.grows (Grows.trans HG3.out hg5))
 clear hg5 HFI x0 x1 x2 x3 x4 x5 x6
 cases fb with
 | true =>
   rw [if_pos rfl] at hrr
   obtain ⟨L6,hL6⟩:∃ L6,L=L6:=⟨_,rfl⟩
   rw [hL6] at hrr H5 HK
   have H6:=H5
   have HBX:=HB5
   have ST6:=ST5
   have OK6:=hid (HK.out.2.mono (Nat.le_refl T) (Nat.le_refl S))
   clear H5 HB5 ST5 hL6
   have HF6:=hid (fun w' (hg:Zc (fun k=>B≤k∧¬ lgO l A (out') k) w5 w')=>(H6.out.fieldsS hg:LgF w' d l A n c L6.limit L6.man.next L6.last))
   have HB6:=hid (fun w' (hg:Zc (fun k=>B≤k∧¬ lgO l A (out') k) w5 w')=>box7 (Zo (out:=lgO l A (out')) hg HBX.out (.inl HM1.out.2)))
   have hadd:=fun w' (h6:LgAt B w0 w' d l (out') A n c L6)=>h6.dopO (f:=88) (args:=#[.pointer (some ⟨d,0,none⟩),.int .i64 L6.last,.agg #[.int .i64 r.kind,.string ⟨r.key.toArray⟩,.int .i64 r.id,.int .i64 r.no,.int .i64 r.size,.slice LA ln lc,.slice BA bn bc]]) (v:=.returned (.tuple #[.int .i64 (addP L6.dk L6.last r).2.1,.int .i64 (addP L6.dk L6.last r).2.2.1,.int .i64 (addP L6.dk L6.last r).2.2.2])) (m':=(addP L6.dk L6.last r).1) (Zg6 w' L6.last r (HIN.out w' h6.dk.low) h6.dk OK6.out.ok (by have:=HNUM.out;omega))
   obtain ⟨la,hla⟩:∃ la,L6.last=la:=⟨_,rfl⟩
   unfold addLP at hrr
   rw [hla] at HF6 hadd hrr
   obtain ⟨⟨m7,p7,q7,e7⟩,hq7⟩:∃ q,addP L6.dk la r=q:=⟨_,rfl⟩
   rw [hq7] at hrr
   simp only [hq7] at hadd
   dsimp only at hrr
   have HA:=hid hadd
   have HLA:=hid hla
   clear hadd hq7 hla
   go_wp2_with (fail)
   refine Zal (G:=Grows) (E:=Zc (fun k=>B≤k∧¬ lgO l A (out') k)) 16 [Zu _ (.pointer (some ⟨l,0,none⟩)),Zu _ (.pointer (some ⟨l,0,none⟩)),Zu _ (.pointer (some ⟨l,0,none⟩)),Zu _ (.pointer (some ⟨d,0,none⟩)),Zu _ (.pointer (some ⟨l,0,none⟩)),Zu _ (.pointer (some ⟨l,0,none⟩)),Zu _ (.pointer (some ⟨l,4,none⟩)),Zu _ (.int .i64 la),Zu _ (.agg #[.int .i64 r.kind,.string ⟨r.key.toArray⟩,.int .i64 r.id,.int .i64 r.no,.int .i64 r.size,.slice LA ln lc,.slice BA bn bc]),wrJob _ (.tuple #[.int .i64 p7,.int .i64 q7,.int .i64 e7]) (fun w=>LgAt B w0 w d l (out') A n c (L6.on m7)) (fun _ _ h g=>LgAt.grow h g),Zu _ (.tuple #[.int .i64 p7,.int .i64 q7,.int .i64 e7]),Zu _ (.int .i64 p7),Zu _ (.int .i64 q7),Zu _ (.int .i64 e7),Zu _ (.int .i64 p7),Zu _ (.int .i64 q7)] [(false,false),(false,false),(false,false),(false,false),(false,false),(false,false),(false,false),(false,false),(false,false),(true,true),(false,false),(false,false),(false,false),(false,false),(false,false),(false,false)] (fun w=>LgAt B w0 w d l (out') A n c L6) rfl mixed (by kernel_rfl) (fun _ _=>Zc.grows) (fun _ _ _=>Zc.trans) (Jz _ _) (H6.out.grow (Ze _)) (fun _ _ h g=>LgAt.grow h g) ?_
   simp only [List.take_succ_cons,List.take_zero,List.drop_succ_cons,List.drop_zero]
   iterate 3
    refine j_val _ (by rfl) ?_ ?_
    ·intro w' hC;clear hC;go_simp
    simp only [Pu]
   refine j_val _ (by rfl) ?_ ?_
   ·intro w' hC;obtain ⟨z0,z1,z2,z3,z4⟩:=HF6.out w' hC;clear hC;go_simp
   simp only [Pu]
   iterate 3
    refine j_val _ (by rfl) ?_ ?_
    ·intro w' hC;clear hC;go_simp
    simp only [Pu]
   refine j_val _ (by rfl) ?_ ?_
   ·intro w' hC;obtain ⟨z0,z1,z2,z3,z4⟩:=HF6.out w' hC;clear hC;go_simp
   simp only [Pu]
   refine j_val _ (by rfl) ?_ ?_
   ·intro w' hC;obtain ⟨x0,x1,x2,x3,x4,x5,x6⟩:=HB6.out w' hC;clear hC;go_simp
   simp only [Pu]
   refine Zo9 88 #[.pointer (some ⟨d,0,none⟩),.int .i64 la,.agg #[.int .i64 r.kind,.string ⟨r.key.toArray⟩,.int .i64 r.id,.int .i64 r.no,.int .i64 r.size,.slice LA ln lc,.slice BA bn bc]] (.tuple #[.int .i64 p7,.int .i64 q7,.int .i64 e7]) (by rfl) (by intro w' hC;clear hC;go_simp) ?_ ?_
   ·intro w' hC hcls;exact HA.out w' hcls
   simp only [Pu]
   iterate 6
    refine j_val _ (by rfl) ?_ ?_
    ·intro w' hC;clear hC;go_simp
    simp only [Pu]
   refine Zew ?_
   intro w9 hC hks hcls
   have HCw9:=hid hC
   have HLw9:=hid hcls
   clear hC hks hcls
   have H9:=hid (show LgAt B w0 w9 d l (out') A n c (L6.on m7) from HLw9.out)
   have ST9:=hid (ST6.out.trans (Zt (show Stays B (lgO l A (out')) w5 w9 from HCw9.out) fun k hk=>Or.inl hk))
   obtain ⟨y0,y1,y2,y3,y4⟩:=H9.out.fields (Grows.refl _)
   have y4b:w9.cell? { block:=l,off:=4 }=some (.int .i64 la):=by rw [y4];show some (Value.int .i64 L6.last)=_;rw [HLA.out]
   clear y0 y1 y2 y3 y4
   by_cases he7:e7=0
   ·subst he7
    rw [if_pos rfl] at hrr
    subst hrr
    go_wp2_with (fail)
    refine bodyPost_ret (Y0 rfl _ _ _) rfl ?_
    exact ⟨rfl,(H9.out.less HOU.out).in,(Stays.grows HG1.out).trans (Zt ST9.out HOU.out)⟩
   ·have heb:(e7 != 0)=true:=by rw [bne_iff_ne];exact he7
    rw [if_neg he7] at hrr
    subst hrr
    clear he7
    go_wp2_with (fail)
    refine bodyPost_ret (Y0 rfl _ _ _) rfl ?_
    exact ⟨rfl,(H9.out.less HOU.out).in,(Stays.grows HG1.out).trans (Zt ST9.out HOU.out)⟩
 | false =>
   rw [if_neg (by decide)] at hrr
   have hro:=Ziu w5 H5.out HK.out.1 HK.out.2 (by have:=HNUM.out;omega) (by have:=HNUM.out;have:=HRL.out rfl;omega)
   have hla:=HK.out.1.last
   have hokr:=LOk.roll HK.out.2 (by have:=HNUM.out;omega) (hla.imp id fun h=>HK.out.1.seg h)
   obtain ⟨⟨L6,e6⟩,hq6⟩:∃ q,rollP L=q:=⟨_,rfl⟩
   rw [hq6] at hrr hro hokr
   dsimp only at hrr hokr
   have HRO:=hid hro
   have OK6:=hid hokr
   clear hro hla hokr hq6
   go_wp2_with (fail)
   refine HRO.out.mono ?_
   rintro e w6 ⟨rfl,h6,st6⟩
   have HI6:=hid (show LgIn B w0 w6 d l out' L6 from h6)
   have ST6:=hid (ST5.out.trans st6)
   have HBX:=hid (Zo st6 HB5.out HM1.out.2)
   clear h6 st6 HRO
   dsimp only
   by_cases he6:e6=0
   rotate_left 1
   ·have heb:(e6 != 0)=true:=by rw [bne_iff_ne];exact he6
    rw [if_neg he6] at hrr
    subst hrr
    clear he6
    go_wp2_with (fail)
    refine bodyPost_ret (Y0 rfl _ _ _) rfl ?_
    exact ⟨rfl,HI6.out.less HOU.out,(Stays.grows HG1.out).trans (Zt ST6.out HOU.out)⟩
   subst he6
   rw [if_pos rfl] at hrr
   obtain ⟨A6,n6,c6,h6⟩:=HI6.out
   have H6:=hid h6
   clear h6 HI6
   have HF6:=hid (fun w' (hg:Zc (fun k=>B≤k∧¬ lgO l A6 (out') k) w6 w')=>(H6.out.fieldsS hg:LgF w' d l A6 n6 c6 L6.limit L6.man.next L6.last))
   have HB6:=hid (fun w' (hg:Zc (fun k=>B≤k∧¬ lgO l A6 (out') k) w6 w')=>box7 (Zo (out:=lgO l A6 (out')) hg HBX.out (.inl HM1.out.2)))
   have hadd:=fun w' (h6:LgAt B w0 w' d l (out') A6 n6 c6 L6)=>h6.dopO (f:=88) (args:=#[.pointer (some ⟨d,0,none⟩),.int .i64 L6.last,.agg #[.int .i64 r.kind,.string ⟨r.key.toArray⟩,.int .i64 r.id,.int .i64 r.no,.int .i64 r.size,.slice LA ln lc,.slice BA bn bc]]) (v:=.returned (.tuple #[.int .i64 (addP L6.dk L6.last r).2.1,.int .i64 (addP L6.dk L6.last r).2.2.1,.int .i64 (addP L6.dk L6.last r).2.2.2])) (m':=(addP L6.dk L6.last r).1) (Zg6 w' L6.last r (HIN.out w' h6.dk.low) h6.dk OK6.out.ok (by have:=HNUM.out;omega))
   obtain ⟨la,hla⟩:∃ la,L6.last=la:=⟨_,rfl⟩
   unfold addLP at hrr
   rw [hla] at HF6 hadd hrr
   obtain ⟨⟨m7,p7,q7,e7⟩,hq7⟩:∃ q,addP L6.dk la r=q:=⟨_,rfl⟩
   rw [hq7] at hrr
   simp only [hq7] at hadd
   dsimp only at hrr
   have HA:=hid hadd
   have HLA:=hid hla
   clear hadd hq7 hla
   go_wp2_with (fail)
   refine Zal (G:=Grows) (E:=Zc (fun k=>B≤k∧¬ lgO l A6 (out') k)) 16 [Zu _ (.pointer (some ⟨l,0,none⟩)),Zu _ (.pointer (some ⟨l,0,none⟩)),Zu _ (.pointer (some ⟨l,0,none⟩)),Zu _ (.pointer (some ⟨d,0,none⟩)),Zu _ (.pointer (some ⟨l,0,none⟩)),Zu _ (.pointer (some ⟨l,0,none⟩)),Zu _ (.pointer (some ⟨l,4,none⟩)),Zu _ (.int .i64 la),Zu _ (.agg #[.int .i64 r.kind,.string ⟨r.key.toArray⟩,.int .i64 r.id,.int .i64 r.no,.int .i64 r.size,.slice LA ln lc,.slice BA bn bc]),wrJob _ (.tuple #[.int .i64 p7,.int .i64 q7,.int .i64 e7]) (fun w=>LgAt B w0 w d l (out') A6 n6 c6 (L6.on m7)) (fun _ _ h g=>LgAt.grow h g),Zu _ (.tuple #[.int .i64 p7,.int .i64 q7,.int .i64 e7]),Zu _ (.int .i64 p7),Zu _ (.int .i64 q7),Zu _ (.int .i64 e7),Zu _ (.int .i64 p7),Zu _ (.int .i64 q7)] [(false,false),(false,false),(false,false),(false,false),(false,false),(false,false),(false,false),(false,false),(false,false),(true,true),(false,false),(false,false),(false,false),(false,false),(false,false),(false,false)] (fun w=>LgAt B w0 w d l (out') A6 n6 c6 L6) rfl mixed (by kernel_rfl) (fun _ _=>Zc.grows) (fun _ _ _=>Zc.trans) (Jz _ _) (H6.out.grow (Ze _)) (fun _ _ h g=>LgAt.grow h g) ?_
   simp only [List.take_succ_cons,List.take_zero,List.drop_succ_cons,List.drop_zero]
   iterate 3
    refine j_val _ (by rfl) ?_ ?_
    ·intro w' hC;clear hC;go_simp
    simp only [Pu]
   refine j_val _ (by rfl) ?_ ?_
   ·intro w' hC;obtain ⟨z0,z1,z2,z3,z4⟩:=HF6.out w' hC;clear hC;go_simp
   simp only [Pu]
   iterate 3
    refine j_val _ (by rfl) ?_ ?_
    ·intro w' hC;clear hC;go_simp
    simp only [Pu]
   refine j_val _ (by rfl) ?_ ?_
   ·intro w' hC;obtain ⟨z0,z1,z2,z3,z4⟩:=HF6.out w' hC;clear hC;go_simp
   simp only [Pu]
   refine j_val _ (by rfl) ?_ ?_
   ·intro w' hC;obtain ⟨x0,x1,x2,x3,x4,x5,x6⟩:=HB6.out w' hC;clear hC;go_simp
   simp only [Pu]
   refine Zo9 88 #[.pointer (some ⟨d,0,none⟩),.int .i64 la,.agg #[.int .i64 r.kind,.string ⟨r.key.toArray⟩,.int .i64 r.id,.int .i64 r.no,.int .i64 r.size,.slice LA ln lc,.slice BA bn bc]] (.tuple #[.int .i64 p7,.int .i64 q7,.int .i64 e7]) (by rfl) (by intro w' hC;clear hC;go_simp) ?_ ?_
   ·intro w' hC hcls;exact HA.out w' hcls
   simp only [Pu]
   iterate 6
    refine j_val _ (by rfl) ?_ ?_
    ·intro w' hC;clear hC;go_simp
    simp only [Pu]
   refine Zew ?_
   intro w9 hC hks hcls
   have HCw9:=hid hC
   have HLw9:=hid hcls
   clear hC hks hcls
   have H9:=hid (show LgAt B w0 w9 d l (out') A6 n6 c6 (L6.on m7) from HLw9.out)
   have ST9:=hid (ST6.out.trans (Zt (show Stays B (lgO l A6 (out')) w6 w9 from HCw9.out) fun k hk=>Or.inl hk))
   obtain ⟨y0,y1,y2,y3,y4⟩:=H9.out.fields (Grows.refl _)
   have y4b:w9.cell? { block:=l,off:=4 }=some (.int .i64 la):=by rw [y4];show some (Value.int .i64 L6.last)=_;rw [HLA.out]
   clear y0 y1 y2 y3 y4
   by_cases he7:e7=0
   ·subst he7
    rw [if_pos rfl] at hrr
    subst hrr
    go_wp2_with (fail)
    refine bodyPost_ret (Y0 rfl _ _ _) rfl ?_
    exact ⟨rfl,(H9.out.less HOU.out).in,(Stays.grows HG1.out).trans (Zt ST9.out HOU.out)⟩
   ·have heb:(e7 != 0)=true:=by rw [bne_iff_ne];exact he7
    rw [if_neg he7] at hrr
    subst hrr
    clear he7
    go_wp2_with (fail)
    refine bodyPost_ret (Y0 rfl _ _ _) rfl ?_
    exact ⟨rfl,(H9.out.less HOU.out).in,(Stays.grows HG1.out).trans (Zt ST9.out HOU.out)⟩
end
end Go.Proofs.YtkelafkbmnjpeaaGreat
namespace Go.Proofs.YtkelafkbmnjpeaaGreat
open Go.Shelf
def delLg_ren:Go.Shelf.Ren:=⟨fun | 10=>83 | 6=>143 | n=>n,fun | 22=>40 | 23=>3 | 25=>130 | 3=>3 | 4=>4 | 0=>0 | n=>n,fun | n=>n⟩
theorem delLg:Go.Proofs.SlLaysH.n10 Tryz.prog delLg_ren:={
  mixed:=by kernel_rfl
  f6:=⟨Tryz.f143.name,by decide,Tryz.func143.trans (congrArg some (by kernel_rfl))⟩
  f10:=⟨Tryz.f83.name,by decide,Tryz.func83.trans (congrArg some (by kernel_rfl))⟩
  t0:=Tryz.underlying0
  a0:=Tryz.isAgg0
  z0:=Tryz.sizeOf0
  v0:=Tryz.zeroValue0
  t3:=Tryz.underlying3
  a3:=Tryz.isAgg3
  z3:=Tryz.sizeOf3
  v3:=Tryz.zeroValue3
  t4:=Tryz.underlying4
  a4:=Tryz.isAgg4
  z4:=Tryz.sizeOf4
  v4:=Tryz.zeroValue4
  t22:=Tryz.underlying40
  a22:=Tryz.isAgg40
  z22:=Tryz.sizeOf40
  v22:=Tryz.zeroValue40
  a23:=Tryz.isAgg3
  z23:=Tryz.sizeOf3
  t25:=Tryz.underlying130
  a25:=Tryz.isAgg130
  z25:=Tryz.sizeOf130
  v25:=Tryz.zeroValue130 }
end Go.Proofs.YtkelafkbmnjpeaaGreat
set_option maxHeartbeats 4000000
set_option maxRecDepth 100000
namespace Go.Proofs.YtkelafkbmnjpeaaGreat
open Go.Lib (hid)
open Go.RowKit Go.Maps Go.WideMaps Go.Shelf Go.Lib Go.Sort
theorem Zri (A:Option Addr) (n c:Nat) (xs:List Int) (x:Int) (w:World) (h:Ints w A n c xs) (hn:n≤1000000000000) :
 Calls Tryz.prog 142 #[.slice A n c,.int .i64 x] w fun e w'=>∃ k:Int,e=.returned (.int .i64 k)∧(0≤k↔x∈xs)∧-1≤k∧w=w':=by
 have HI:=hid h
 have HL:=hid h.len
 clear h
 go_enter Tryz.func142,Tryz.ntmps142
 go_wp2_with (fail)
 go_loop [8] (fun i=>∃ j:Nat,j≤n∧i=.int .i64 (j:Nat)∧Hid (¬ x∈xs.take j)) (fun i=>n - (intOf i).toNat)
 case atStart=>exact ⟨0,by omega,rfl,hid (by simp)⟩
 case round =>
  obtain ⟨j,hj,rfl,HU⟩:=hrel
  by_cases hlt:j < n
  ·have hlt':(j:Int) < (n:Int):=by omega
   have hj0:(0:Int)≤(j:Int):=by omega
   have e5:IntKind.i64.wrap ((j:Int)+1)=(j:Int)+1:=IntWalk.i64_in _ ⟨by omega,by omega⟩
   obtain ⟨ad,y,rfl,hc,hy,_⟩:=HI.out.get hlt
   have HY:=hid hy
   clear hy
   by_cases hxy:x=y
   ·have hb:(x==y)=true:=by rw [hxy];exact beq_self_eq_true y
    have HXY:=hid hxy
    clear hxy
    go_wp2_with (fail)
    go_ret
    exact ⟨j,rfl,⟨fun _=>by rw [HXY.out];exact List.mem_of_getElem? HY.out,fun _=>by omega⟩,by omega,rfl⟩
   ·have hb:(x==y)=false:=by rw [beq_eq_false_iff_ne];exact hxy
    have HXY:=hid hxy
    clear hxy
    go_wp2_with (fail)
    go_round
    case rel=>exact ⟨j+1,by omega,by first | rfl | go_num,hid (by
     obtain ⟨hj',hy'⟩:=List.getElem?_eq_some_iff.1 HY.out
     rw [List.take_succ_eq_append_getElem hj',hy',List.mem_append]
     exact fun e=>e.elim HU.out fun e=>HXY.out (List.mem_singleton.1 e))⟩
    case measure=>simp [intOf];omega
  ·obtain rfl:j=n:=by omega
   go_wp2_with (fail)
   go_ret
   refine ⟨-1,rfl,⟨fun e=>absurd e (by omega),fun e=>absurd e ?_⟩,by omega,rfl⟩
   have:=HU.out
   rwa [List.take_of_length_le (by rw [HL.out];omega)] at this
theorem Zj9 (A:Option Addr) (n c:Nat) (xs:List Int) (x:Int) (w:World) (h:Ints w A n c xs) (hn:n≤1000000000000) :
 Calls Tryz.prog 82 #[.slice A n c,.int .i64 x] w fun e w'=>e=.returned (.bool (decide (x∈xs)))∧w=w':=by
 have HI:=hid (Zri A n c xs x w h hn)
 obtain ⟨b,hb⟩:∃ b,decide (x∈xs)=b:=⟨_,rfl⟩
 rw [hb]
 have HB:=hid hb
 clear h hb
 go_enter Tryz.func82,Tryz.ntmps82
 go_wp2_with (fail)
 refine HI.out.mono ?_
 rintro e w1 ⟨k,rfl,hk,_,rfl⟩
 have hkb:decide (0≤k)=b:=by rw [←HB.out];exact decide_eq_decide.2 hk
 have HKB:=hid hkb
 clear hk hkb
 go_wp2_with (fail)
 go_ret
 exact ⟨by rw [←HKB.out];rfl,rfl⟩
theorem Zfz (b:Nat) (A:Option Addr) (n c:Nat) (xs:List Int) (x:Int) (w:World) (hb:w.cell? ⟨b,0,none⟩=some (.slice A n c)) (h:Ints w A n c xs) (hn:n≤1000000000000) :
 Calls Tryz.prog 81 #[.int .i64 x,.pointer (some ⟨b,0,none⟩)] w fun e w'=>e=.returned (.bool (decide (x∈xs)))∧w=w':=by
 have HC:=hid (Zj9 A n c xs x w h hn)
 obtain ⟨r,hr⟩:∃ b,decide (x∈xs)=b:=⟨_,rfl⟩
 rw [hr] at HC ⊢
 clear h hr
 go_enter Tryz.func81,Tryz.ntmps81
 go_wp2_with (fail)
 refine HC.out.mono ?_
 rintro e w1 ⟨rfl,rfl⟩
 go_wp2_with (fail)
 go_ret
 exact ⟨rfl,rfl⟩
theorem Ints.same {w w':World} {A:Option Addr} {n c:Nat} {xs:List Int} (h:Ints w A n c xs) {b:Nat} (hc:∀ a:Addr,a.block < w.heap.size→a.block≠b→w'.cell? a=w.cell? a) (hs:w.heap.size≤w'.heap.size) (hA:∀ ad,A=some ad→xs≠[]→ad.block≠b):Ints w' A n c xs :=
 ⟨⟨h.row.len,fun k v hv=>by
   obtain ⟨ad,e,hb,hcell⟩:=h.row.spot k v hv
   exact ⟨ad,e,Nat.lt_of_lt_of_le hb hs,by rw [hc _ (by rw [Zk];exact hb) (by rw [Zk];exact hA ad e fun e2=>by rw [e2] at hv;simp at hv)];exact hcell⟩⟩,h.cap,h.bare⟩
theorem Zn7 (base b:Nat) (DA:Option Addr) (dn dc:Nat) (ds:List Int) (A:Option Addr) (n c:Nat) (xs:List Int) (w:World) (ho:w.ownsRow base 3 1 (.slice A n c) n (xs.map iV)) (hn:n≤1000000)
 (hb:w.cell? ⟨b,0,none⟩=some (.slice DA dn dc)) (hbl:b < base) (hd:Ints w DA dn dc ds) (hdn:dn≤1000000000000) (hDA:∀ ad,DA=some ad→ds≠[]→ad.block < base) :
 Calls Tryz.prog 83 #[.slice A n c,.func (.func 81) #[] #[.pointer (some ⟨b,0,none⟩)]] w fun e w' =>
  e=.returned (.slice A (Yl ds xs).length c)∧w'.ownsRow base 3 1 (.slice A (Yl ds xs).length c) (Yl ds xs).length ((Yl ds xs).map iV)∧Below base w w':=by
 have hlen:=(Ints.owned ho).len
 have hbw:base≤w.heap.size∨A=none:=by
  rcases Yk ho with ⟨h1,_⟩ | ⟨g,_,h2,h3⟩
  ·exact .inr h1
  ·exact .inl (by omega)
 rcases Yk ho with ⟨rfl,rfl,rfl⟩ | ⟨g,rfl,hg1,hg2⟩
 ·have hx:xs=[]:=List.eq_nil_of_length_eq_zero hlen
  subst hx
  have hcon:=AnyE.slices_IndexFunc_empty (P:=Tryz.prog) { delLg with } none 0 (.func (.func 81) #[] #[.pointer (some ⟨b,0,none⟩)]) w
  change Calls Tryz.prog 143 _ _ _ at hcon
  have HC:=hid hcon
  clear hcon hd ho hb hbw
  go_enter Tryz.func83,Tryz.ntmps83
  go_wp2_with (fail)
  refine HC.out.mono ?_
  rintro e w1 ⟨rfl,rfl⟩
  go_wp2_with (fail)
  go_ret
  exact ⟨rfl,World.ownsRow_nil _ _ _ _,Below.refl _ _⟩
 ·rcases ho.2 with ⟨h1,h2⟩ | ⟨g',cap,cur,h1,h2,h3,h4,h5,h6,h7⟩
  ·cases h1
  injection h1 with q1 _ q3
  injection q1 with q1
  injection q1 with q1
  subst q1 q3
  have hH:Holds (Value.int .i64) w g 0 xs.toArray:=holds_of_blockI h3 (by rw [Nat.mul_one] at h7;rw [hlen];exact h7)
  have eg:∀ args w,(callFunc 81 args).run Tryz.prog w=.ok (.enter 81 args) w:=enters_of Tryz.func81 (by kernel_rfl) rfl
  have hbs:b < w.heap.size:=by omega
  have hcon:=AnyE.slices_DeleteFunc (P:=Tryz.prog) delLg (Value.int .i64) (fun _=>rfl) (fun x=>decide (x∈ds)) 81 #[.pointer (some ⟨b,0,none⟩)] eg 0 Tryz.zeroValue3 g 0 c xs.toArray w
   (fun W x hW=>(Zfz b DA dn dc ds x W ((hW.cell (p:=⟨b,0,none⟩) hbs).trans hb) (hd.grow hW) hdn).mono fun e w' h=>⟨h.1,0,h.2.symm⟩)
   (fun k os dk x _=>by
     have hcell:∀ a:Addr,a.block < w.heap.size→a.block≠g→(sortWorld (Value.int .i64) w g 0 k dk os).cell? a=w.cell? a:=fun a ha hne=>by
      unfold sortWorld
      rw [cell?_grow _ _ _ (by rw [size_putRow];exact ha),cell?_putRow_other _ _ g 0 _ _ (.inl hne)]
      rfl
     have hsz:w.heap.size≤(sortWorld (Value.int .i64) w g 0 k dk os).heap.size:=by
      unfold sortWorld
      rw [size_grow,size_putRow]
      exact Nat.le_add_right _ _
     exact (Zfz b DA dn dc ds x _ ((hcell ⟨b,0,none⟩ hbs (by show b≠g;omega)).trans hb) (hd.same hcell hsz fun ad e hne=>by have:=hDA ad e hne;omega) hdn).mono fun e w' h=>⟨h.1,0,h.2.symm⟩)
   hH (by simp;omega) (by simp;omega)
  change Calls Tryz.prog 83 _ _ _ at hcon
  have hszx:xs.toArray.size=n:=by simp [hlen]
  rw [hszx] at hcon
  refine hcon.mono ?_
  rintro e w' ⟨rfl,q,rfl⟩
  rw [show (xs.toArray.toList.filter fun x=>!decide (x∈ds))=Yl ds xs from rfl]
  have hle:(Yl ds xs).length≤n:=by rw [←hlen];exact List.length_filter_le _ _
  have:=Lib.ownsRow_putRow (enc:=Value.int .i64) (q:=q) (ys:=Yl ds xs++List.replicate (n - (Yl ds xs).length) 0) ho (by simp;omega) hle
  rw [List.take_left] at this
  exact ⟨rfl,this,Lib.below_putRow (Below.refl _ w) h2⟩
end Go.Proofs.YtkelafkbmnjpeaaGreat
