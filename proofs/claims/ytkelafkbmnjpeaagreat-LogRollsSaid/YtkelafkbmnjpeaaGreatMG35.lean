/-
  Texts that the statements lean on, one behind the other.
-/
import Derived.Test.YtkelafkbmnjpeaaGreatMG34
import Derived.Test.YtkelafkbmnjpeaaGreatMG04
import Derived.Shelf.SlicesE.DeleteFunc
import Derived.Test.YtkelafkbmnjpeaaGreatProg
set_option maxHeartbeats 16000000
set_option maxRecDepth 100000
namespace Go.Proofs.YtkelafkbmnjpeaaGreat
open Go.Lib (hid)
open Go.RowKit Go.Maps Go.WideMaps
section
variable {B d l n c T S K:Nat} {w0 w:World} {out:Nat→Prop} {A:Option Addr} {L:Lg}
theorem Jl (L:Lg) (segs:List Int):(Z0 L segs).1.last=L.last∧(Z0 L segs).1.limit=L.limit∧((Z0 L segs).2=0→(Z0 L segs).1.man=⟨segs,L.man.next⟩)∧((Z0 L segs).2≠0→(Z0 L segs).1.man=L.man):=by
 unfold Z0
 split
 ·exact ⟨rfl,rfl,fun _=>rfl,fun h=>absurd rfl h⟩
 ·rename_i hne
  exact ⟨rfl,rfl,fun h=>absurd h hne,fun _=>rfl⟩
theorem Zpz {l:List Int} {x:Int} (h:l.Pairwise (· < ·)) (hx:∀ n∈l,n < x):(l++[x]).Pairwise (· < ·):=by
 rw [List.pairwise_append]
 exact ⟨h,List.pairwise_singleton _ _,fun a ha b hb=>by rw [List.mem_singleton.1 hb];exact hx a ha⟩
theorem Zhy {m:Mn} (h:Z1 m=true) {x:Int} (hx:m.next≤x∧x < 99999999) (hl:m.segs.length < 1000):Z1 ⟨m.segs++[x],x+1⟩=true:=by
 obtain ⟨h1,h2,h3,h4,h5⟩:=Yl.1 h
 refine Yl.2 ⟨by rw [List.length_append];simp only [List.length_singleton];omega,Zpz h2 fun n hn=>by have:=h3 n hn;omega,fun n hn=>?_,show 0≤x+1 by omega,show x+1≤99999999 by omega⟩
 show 0≤n∧n < x+1
 rcases List.mem_append.1 hn with hn | hn
 ·have:=h3 n hn;omega
 ·have:=List.mem_singleton.1 hn;omega
theorem LgR.nexts (h:LgR L) {x:Int} (hx:L.man.next≤x∧x < 99999999):LgR (L.next (x+1)):=by
 obtain ⟨h1,h2,h3,h4,h5⟩:=Yl.1 h.man
 exact ⟨Yl.2 ⟨h1,h2,fun n hn=>by have:=h3 n hn;show 0≤n∧n < x+1;omega,show 0≤x+1 by omega,show x+1≤99999999 by omega⟩,h.last,h.limit⟩
theorem LgR.rolled (h:LgR L) {x:Int} (hx:L.man.next≤x∧x < 99999999) (hl:L.man.segs.length < 1000):LgR (rollA (L.next (x+1)) x).1:=by
 have hn:=h.nexts hx
 unfold rollA
 split
 rotate_left 1
 ·exact hn.on _
 obtain ⟨M,hM⟩:∃ M,(L.next (x+1)).on (makeP (L.next (x+1)).dk x).1=M:=⟨_,rfl⟩
 have m1:M.man=⟨L.man.segs,x+1⟩:=by rw [←hM];rfl
 have m2:M.last=L.last:=by rw [←hM];rfl
 have m3:M.limit=L.limit:=by rw [←hM];rfl
 have hnm:Z1 M.man=true:=by rw [←hM];exact hn.man
 rw [hM]
 obtain ⟨k1,k2,k3,k4⟩:=Jl M (L.man.segs++[x])
 have hB:rollB M x=if (Z0 M (L.man.segs++[x])).2=0 then (rollC (Z0 M (L.man.segs++[x])).1 x,0) else Z0 M (L.man.segs++[x]):=by unfold rollB;rw [m1]
 rw [hB]
 generalize Z0 M (L.man.segs++[x])=q at *
 have hman:∀ L',(rollC L' x).man=L'.man∧(rollC L' x).limit=L'.limit:=fun L'=>by unfold rollC;split <;> exact ⟨rfl,rfl⟩
 rw [m1] at k3
 split
 ·rename_i he
  have hm:=k3 he
  refine ⟨?_,.inr ?_,?_⟩
  ·rw [(hman _).1,hm]
   exact Zhy h.man hx hl
  ·rw [(hman _).1,hm]
   exact List.mem_append_right _ (List.mem_singleton.2 rfl)
  ·rw [(hman _).2,k2,m3]
   exact h.limit
 ·rename_i he
  refine ⟨?_,?_,?_⟩
  ·rw [k4 he]
   exact hnm
  ·rw [k1,k4 he,m2,m1]
   exact h.last
  ·rw [k2,m3]
   exact h.limit
theorem LgR.roll (h:LgR L):LgR (rollP L).1:=by
 have h1:=h.sync
 obtain ⟨k1,k2,k3⟩:=Zdn L
 unfold rollP
 split
 ·split
  ·exact h1
  ·rename_i hc
   simp only [not_or,Int.not_le] at hc
   exact h1.rolled ⟨Zkb _,hc.1⟩ (by rw [k1];omega)
 ·exact h1
theorem J7 (L:Lg) (r:Rc):(addLP L r).1.man=L.man∧(addLP L r).1.last=L.last∧(addLP L r).1.limit=L.limit∧(addLP L r).1.dk=(addP L.dk L.last r).1:=by
 unfold addLP
 split <;> exact ⟨rfl,rfl,rfl,rfl⟩
theorem LgR.adds (h:LgR L) (r:Rc):LgR (addLP L r).1:=by
 obtain ⟨k1,k2,k3,k4⟩:=J7 L r
 exact ⟨by rw [k1];exact h.man,by rw [k1,k2];exact h.last,by rw [k3];exact h.limit⟩
theorem LgR.ladd (h:LgR L) (r:Rc):LgR (laddP L r).1:=by
 unfold laddP
 split
 ·split
  ·exact h.adds r
  ·split
   ·exact h.roll.adds r
   ·exact h.roll
 ·exact h
theorem LOk.adds {m:Dk} (h:LOk T S m) {n:Int} (hn:n=-1∨(0≤n∧n≤99999999)) (r:Rc):LOk T (S+(frS r).length) (addP m n r).1:=by
 unfold addP
 split
 ·have key:LOk T (S+(frS r).length) (m.append (nmS n) (frS r)).1:=by
   rcases hn with rfl | hn
   ·rw [show nmS (-1)=[] by kernel_rfl]
    unfold Dk.append
    split
    ·exact h.mono (Nat.le_refl _) (Nat.le_add_right _ _)
    ·split
     ·exact h.mono (Nat.le_refl _) (Nat.le_add_right _ _)
     ·rename_i f hf
      obtain ⟨P,hb⟩:=h
      split
      ·exact ⟨P,hb.mono (Nat.le_refl _) (Nat.le_add_right _ _)⟩
      ·have hap:=LOk.append ⟨P,hb⟩ [] (frS r) (Nat.le_add_right S (frS r).length) (fun e=>by cases e) (by
        rw [Zb8 hf]
        have:=(hb.bytes f (hb.find hf).2.1).1
        show ((m.files f).bytes.length:Int)+_≤_
        omega)
       unfold Dk.append at hap
       rename_i hd _ hc
       rw [if_neg hd,hf] at hap
       dsimp only at hap
       rw [if_neg hc] at hap
       exact hap
   ·have hs:=h.size hn
    exact h.append _ _ (Nat.le_add_right _ _) (fun _=>by omega) (by omega)
  split <;> exact key
 ·exact h.mono (Nat.le_refl _) (Nat.le_add_right _ _)
theorem LgR.lasts (h:LgR L):L.last=-1∨(0≤L.last∧L.last≤99999999):=h.last.imp id fun e=>h.seg e
theorem LOk.ladd (h:LOk T S L.dk) (hr:LgR L) (hS:13≤S) (r:Rc):LOk (T+6) (S+(frS r).length) (laddP L r).1.dk:=by
 have h2:=h.roll hS hr.lasts
 unfold laddP
 split
 ·split
  ·rw [(J7 L r).2.2.2]
   exact (h.adds hr.lasts r).mono (by omega) (Nat.le_refl _)
  ·split
   ·rw [(J7 _ r).2.2.2]
    exact h2.adds hr.roll.lasts r
   ·exact h2.mono (Nat.le_refl _) (by omega)
 ·exact h.mono (by omega) (by omega)
theorem Zf0 {m:Mn} (h:Z1 m=true) (ds:List Int):Z1 ⟨Yh ds m.segs,m.next⟩=true:=by
 obtain ⟨h1,h2,h3,h4,h5⟩:=Yl.1 h
 exact Yl.2 ⟨Nat.le_trans (List.length_filter_le _ _) h1,h2.sublist List.filter_sublist,fun n hn=>h3 n (List.mem_filter.1 hn).1,h4,h5⟩
theorem Zbg (L:Lg) (ds:List Int):(dropP L ds).1.last=L.last∧(dropP L ds).1.limit=L.limit∧((dropP L ds).2=0→(dropP L ds).1.man=⟨Yh ds L.man.segs,L.man.next⟩∧Yt L ds=true)∧((dropP L ds).2≠0→(dropP L ds).1.man=L.man):=by
 obtain ⟨k1,k2,k3,k4⟩:=Jl L (Yh ds L.man.segs)
 unfold dropP
 split
 ·rename_i hm
  split
  ·rename_i he
   exact ⟨k1,k2,fun _=>⟨k3 he,hm⟩,fun h=>absurd rfl h⟩
  ·rename_i he
   exact ⟨k1,k2,fun h=>absurd h he,fun _=>k4 he⟩
 ·exact ⟨rfl,rfl,fun h=>(by cases h),fun _=>rfl⟩
theorem LgR.drop (h:LgR L) (ds:List Int):LgR (dropP L ds).1:=by
 obtain ⟨k1,k2,k3,k4⟩:=Zbg L ds
 by_cases he:(dropP L ds).2=0
 ·obtain ⟨hm,hmay⟩:=k3 he
  refine ⟨by rw [hm];exact Zf0 h.man ds,?_,by rw [k2];exact h.limit⟩
  rw [k1,hm]
  refine h.last.imp id fun e=>List.mem_filter.2 ⟨e,?_⟩
  by_cases hd:L.last∈ds
  ·unfold Yt at hmay
   rw [List.all_eq_true] at hmay
   have:=hmay _ hd
   simp at this
  ·simp [hd]
 ·exact ⟨by rw [k4 he];exact h.man,by rw [k1,k4 he];exact h.last,by rw [k2];exact h.limit⟩
theorem Zf1 (w:World) (h:LgAt B w0 w d l out A n c L) (hr:LgR L) (ok:LOk T S L.dk) (hT:T≤80000) (hS:13≤S∧S≤100000) :
 Calls Tryz.prog 38 #[.pointer (some ⟨l,0,none⟩)] w (LgTo B w0 d l out w (rollP L)):=by
 have hs1:=Zp0 w h ok.ok (by omega)
 have hr1:=hr.sync
 have ok1:=LOk.lsync ok
 obtain ⟨k1,k2,k3⟩:=Zdn L
 obtain ⟨r,hrr⟩:∃ r,rollP L=r:=⟨_,rfl⟩
 rw [hrr]
 unfold rollP at hrr
 obtain ⟨⟨L1,e1⟩,hq⟩:∃ q,Zz L=q:=⟨_,rfl⟩
 rw [hq] at hs1 hr1 ok1 k1 k2 k3 hrr
 dsimp only at hs1 hr1 ok1 k1 k2 k3 hrr
 rw [←k1] at hrr
 have HS1:=hid hs1
 have HK:=hid (And.intro hr1 (And.intro ok1 (And.intro hT hS)))
 have hnl:=h.ints.len
 have HNL:=hid (show L1.man.segs.length=n by rw [k1];exact hnl)
 clear h hr ok hs1 hr1 ok1 k1 k2 k3 hq hT hS hnl
 go_enter Tryz.func38,Tryz.ntmps38
 go_wp2_with (fail)
 refine HS1.out.mono ?_
 rintro e w1 ⟨rfl,h1,st1⟩
 have H1:=hid h1
 have ST1:=hid st1
 clear h1 st1 HS1
 by_cases he1:e1=0
 rotate_left 1
 ·have heb:(e1 != 0)=true:=by rw [bne_iff_ne];exact he1
  rw [if_neg he1] at hrr
  subst hrr
  clear he1
  go_wp2_with (fail)
  go_ret
  exact ⟨rfl,H1.out.in,ST1.out⟩
 subst he1
 rw [if_pos rfl] at hrr
 have HN:=hid (Zlv w1 H1.out HK.out.1 HK.out.2.1 (by have:=HK.out;omega) (by have:=HK.out;omega))
 obtain ⟨x,hx⟩:∃ x,lnumP L1=x:=⟨_,rfl⟩
 have hge:=Zkb L1
 rw [hx] at hrr HN hge
 have HNX:=hid (And.intro hge (And.intro hx HK.out.1.next))
 have HRR:=hid hrr
 clear hrr hge hx
 go_wp2_with (fail)
 refine HN.out.mono ?_
 rintro e w2 ⟨rfl,hg2⟩
 have H2:=hid (H1.out.grow hg2)
 have ST2:=hid (ST1.out.trans (Stays.grows hg2))
 clear hg2 HN
 obtain ⟨z0,z1,z2,z3,z4⟩:=H2.out.fields (Grows.refl w2)
 by_cases hbig:x≥99999999
 ·have hrr:=HRR.out
  rw [if_pos (.inl hbig)] at hrr
  subst hrr
  go_wp2_with (fail)
  go_ret
  exact ⟨rfl,H2.out.in,ST2.out⟩
 by_cases hmany:(n:Int)≥1000
 ·have hrr:=HRR.out
  rw [if_pos (.inr (by rw [HNL.out];omega))] at hrr
  subst hrr
  go_wp2_with (fail)
  go_ret
  exact ⟨rfl,H2.out.in,ST2.out⟩
 have hrr:=HRR.out
 rw [if_neg (by rw [HNL.out];omega)] at hrr
 have hx0:0≤x∧x < 99999999:=by have:=HNX.out;omega
 have e5:IntKind.i64.wrap (x+1)=x+1:=IntWalk.i64_in _ ⟨by omega,by omega⟩
 have f3:=H2.out.2.1.free 3
 obtain ⟨h3,st3⟩:=H2.out.num (j:=3) (L':=L1.next (x+1)) (v:=.int .i64 (x+1)) rfl rfl rfl
 obtain ⟨y0,y1,y2,y3,y4⟩:=h3.fields (Grows.refl _)
 have hr3:LgR (L1.next (x+1)):=HK.out.1.nexts ⟨HNX.out.1,hx0.2⟩
 obtain ⟨L3,hL3⟩:∃ L3,L1.next (x+1)=L3:=⟨_,rfl⟩
 have hdk3:L3.dk=L1.dk:=by rw [←hL3];rfl
 have hsg3:L3.man.segs=L1.man.segs:=by rw [←hL3];rfl
 rw [hL3] at h3 y1 y3 y4 hr3 hrr
 have H3:=hid h3
 have HM:=hid (fun hz=>h3.dop (f:=75) (args:=#[.pointer (some ⟨d,0,none⟩),.int .i64 x]) (v:=.returned (.int .i64 (makeP L3.dk x).2)) (m':=(makeP L3.dk x).1) fun out' ho hd=>Zmh _ x hz hd (by rw [hdk3];exact HK.out.2.1.ok) (by have:=HK.out;omega))
 have ok3:LOk T S L3.dk:=by rw [hdk3];exact HK.out.2.1
 have HK3:=hid (And.intro hr3 (And.intro ok3 (And.intro (show L3.man.segs.length=n by rw [hsg3];exact HNL.out) (And.intro hx0 (show n < 1000 by omega)))))
 have HRR3:=hid hrr
 have hbig':¬ (99999999≤x):=by omega
 have hmany':¬ (1000≤(n:Int)):=by omega
 have ST3:=hid (ST2.out.trans st3)
 clear h3 hr3 hdk3 hsg3 ok3 hrr HRR HNX hL3 hx0 st3
 go_wp2_with (fail)
 obtain ⟨w3,hw3⟩:∃ w3,w2.setCell { block:=l,off:=3 } (.int .i64 (x+1))=w3:=⟨_,rfl⟩
 rw [hw3] at H3 HM ST3 ⊢
 clear hw3 y0 y1 y2 y3 y4 z0 z1 z2 z3 z4 f3
 refine (HM.out (by have:=HK3.out.2.2.2.1;omega)).mono ?_
 obtain ⟨⟨m4,e4⟩,hm4⟩:∃ q,makeP L3.dk x=q:=⟨_,rfl⟩
 have hrr:=HRR3.out
 have hok4:=HK3.out.2.1.make x (by have:=HK.out;omega)
 unfold rollA at hrr
 rw [hm4] at hrr hok4
 dsimp only at hrr hok4
 have HM4:=hid hm4
 rw [hm4]
 clear hm4
 rintro e w4 ⟨rfl,h4,st4⟩
 dsimp only at h4
 dsimp only
 have H4:=hid h4
 have ST4:=hid (ST3.out.trans st4)
 clear h4 st4 HM
 by_cases he4:e4=0
 rotate_left 1
 ·have heb:(e4 != 0)=true:=by rw [bne_iff_ne];exact he4
  rw [if_neg he4] at hrr
  subst hrr
  clear he4
  go_wp2_with (fail)
  go_ret
  exact ⟨rfl,H4.out.in,ST4.out⟩
 subst he4
 rw [if_pos rfl] at hrr
 obtain ⟨L4,hL4⟩:∃ L4,L3.on m4=L4:=⟨_,rfl⟩
 rw [hL4] at H4 hrr
 have hr4:LgR L4:=by rw [←hL4];exact HK3.out.1.on _
 have hn4:L4.man.segs.length=n:=by rw [←hL4];exact HK3.out.2.2.1
 have hok4':LOk (T+2) S L4.dk:=by rw [←hL4];exact hok4
 have HR4:=hid (And.intro hr4 (And.intro hn4 hok4'))
 have HRR4:=hid hrr
 have HSG:=hid (Y3 H4.out hr4)
 clear hok4 hok4' hr4 hn4 hL4 hrr
 go_wp2_with (fail)
 refine HSG.out.mono ?_
 rintro e w5 ⟨A5,c5,rfl,ho5,hg5⟩
 have hm6:=Whole.made w5 3 #[.int .i64 x]
 have hg6:=Za w5 (.cells #[.int .i64 x] 3)
 have HR6:=hid (Whole.row hm6 ([x].map intV) 1 rfl rfl)
 have HO6:=hid (show (w5.alloc (.cells #[.int .i64 x] 3)).ownsRow w4.heap.size 3 1 (.slice A5 n c5) n (L4.man.segs.map intV) from Zd ho5 hg6)
 have HG6:=hid (Grows.trans hg5 hg6)
 have HZ5:=hid hg5.size
 clear ho5 hg5 hm6 hg6 HSG
 go_wp2_with (at_builtin
              refine Zeb rfl (.tmp 42) (.tmp 44) rfl (base:=w4.heap.size) rfl HO6.out (A:=some ⟨w5.heap.size,0,none⟩) (m:=1) (c:=1) rfl HR6.out (fun h=>by cases h) (n+1) rfl (by omega) (by have:=HG6.out.size;omega) ?_
              intro A7 c7 w7 ho7 _ hb7
              have HO7:=hid ho7
              have HG7:=hid (Below.trans (show Below w4.heap.size w4 _ from HG6.out) hb7)
              clear ho7 hb7)
 have hsv:=Zj9 (L4.man.segs++[x]) A7 (n+1) c7 H4.out HG7.out HO7.out (fun y hy=>by
  rcases List.mem_append.1 hy with hy | hy
  ·have:=HR4.out.1.seg hy
   exact ⟨by omega,by omega⟩
  ·have:=List.mem_singleton.1 hy
   have:=HK3.out.2.2.2.1
   exact ⟨by omega,by omega⟩) (by have:=HR4.out.1.next;exact ⟨by omega,by omega⟩) HR4.out.2.2.ok (by have:=HK.out;omega)
 have hok8:=LOk.lsave HR4.out.2.2 (L4.man.segs++[x])
 obtain ⟨k1,k2,k3,k4⟩:=Jl L4 (L4.man.segs++[x])
 have hrr:=HRR4.out
 unfold rollB at hrr
 obtain ⟨⟨L8,e8⟩,hq8⟩:∃ q,Z0 L4 (L4.man.segs++[x])=q:=⟨_,rfl⟩
 rw [hq8] at hsv hok8 k1 hrr
 dsimp only at hok8 k1 hrr
 refine hsv.mono ?_
 clear hsv hq8 k2 k3 k4
 rintro e w8 ⟨rfl,st8,h8⟩
 dsimp only at h8
 have ST8:=hid ((ST4.out.trans (Stays.grows HG7.out)).trans st8)
 have HOK8:=hid hok8
 have HL8:=hid k1
 clear hok8 k1 st8
 dsimp only
 rcases h8 with ⟨rfl,h8,_⟩ | ⟨he8,h8⟩
 rotate_left 1
 ·have heb:(e8 != 0)=true:=by rw [bne_iff_ne];exact he8
  rw [if_neg he8] at hrr
  subst hrr
  have H8:=hid h8
  clear he8 h8
  go_wp2_with (fail)
  go_ret
  exact ⟨rfl,H8.out.in,ST8.out⟩
 rw [if_pos rfl] at hrr
 have H8:=hid h8
 obtain ⟨y0,y1,y2,y3,y4⟩:=h8.fields (Grows.refl _)
 have f4:=h8.2.1.free 4
 have hlast:=HR4.out.1.last
 have hlin:=HR4.out.1.lastIn
 rw [←HL8.out] at hlast hlin
 clear h8
 unfold rollC at hrr
 by_cases hla:L8.last=-1
 ·rw [if_pos hla] at hrr
  rw [hla] at y4
  have hnum:=H8.out.num (j:=4) (L':={ L8 with last:=x }) (v:=.int .i64 x) rfl rfl rfl
  have HNUM:=hid hnum
  subst hrr
  clear hnum hla hlast hlin
  go_wp2_with (fail)
  go_ret
  exact ⟨rfl,(HNUM.out.1.less fun k hk=>.inl hk).in,ST8.out.trans (Zs HNUM.out.2 fun k hk=>.inl hk)⟩
 ·rw [if_neg hla] at hrr
  have hw:=Zof L8.last (by omega) w8 H8.out HOK8.out (by have:=HK.out;omega) (by have:=HK.out;omega)
  have HW:=hid hw
  have hlab:(L8.last != -1)=true:=by rw [bne_iff_ne];exact hla
  obtain ⟨la,hlae⟩:∃ la,L8.last=la:=⟨_,rfl⟩
  rw [hlae] at y4 HW hlab hrr
  clear hw hla hlast hlin
  go_wp2_with (fail)
  refine HW.out.mono ?_
  rintro e w9 ⟨rfl,h9,st9⟩
  have H9:=hid h9
  obtain ⟨y0,y1,y2,y3,y4⟩:=h9.fields (Grows.refl _)
  have f4:=h9.2.1.free 4
  have HNUM:=hid (h9.num (j:=4) (L':={ L8.on (Zas L8.dk la) with last:=x }) (v:=.int .i64 x) rfl rfl rfl)
  have ST9:=hid (ST8.out.trans (Zs st9 fun k hk=>.inl hk))
  clear h9 st9
  subst hrr
  go_wp2_with (fail)
  go_ret
  exact ⟨rfl,(HNUM.out.1.less fun k hk=>.inl hk).in,ST9.out.trans (Zs HNUM.out.2 fun k hk=>.inl hk)⟩
end
end Go.Proofs.YtkelafkbmnjpeaaGreat
set_option maxHeartbeats 16000000
set_option maxRecDepth 100000
namespace Go.Proofs.YtkelafkbmnjpeaaGreat
open Go.Lib (hid)
open Go.RowKit Go.Maps Go.WideMaps
theorem Y8 {fn:Func} {t u v x:Tmp} (h:fn.results=#[.tmp t,.tmp u,.tmp v,.tmp x]) (tmps:Array Value) (P:Program) (w:World) :
 (results fn tmps).run P w=.ok (.tuple #[tmps.getD t undef,tmps.getD u undef,tmps.getD v undef,tmps.getD x undef]) w:=by
 simp [results,h]
theorem box7 {w:World} {g t:Nat} {u0 u1 u2 u3 u4 u5 u6:Value} (h:Whole w g t #[u0,u1,u2,u3,u4,u5,u6]):w.cell? { block:=g,off:=0 }=some u0∧w.cell? { block:=g,off:=1 }=some u1∧w.cell? { block:=g,off:=2 }=some u2∧w.cell? { block:=g,off:=3 }=some u3∧w.cell? { block:=g,off:=4 }=some u4∧w.cell? { block:=g,off:=5 }=some u5∧w.cell? { block:=g,off:=6 }=some u6 :=
 ⟨h.cell 0,h.cell 1,h.cell 2,h.cell 3,h.cell 4,h.cell 5,h.cell 6⟩
section
variable {B d l n c T S K:Nat} {w0 w:World} {out:Nat→Prop} {A:Option Addr} {L:Lg}
theorem LgAt.fieldsS (h:LgAt B w0 w d l out A n c L) {w':World} (hs:Stays B (lgO l A out) w w'):LgF w' d l A n c L.limit L.man.next L.last:=by
 have hw:=Zt hs h.whole (.inr (.inl rfl))
 unfold lgC at hw
 exact ⟨hw.cell 0,hw.cell 1,hw.cell 2,hw.cell 3,hw.cell 4⟩
def LaTo (B:Nat) (w0:World) (d l:Nat) (out:Nat→Prop) (w:World) (r:Lg×(Int×Int×Int×Int)) (e:Ending) (w':World):Prop:=e=.returned (.tuple #[.int .i64 r.2.1,.int .i64 r.2.2.1,.int .i64 r.2.2.2.1,.int .i64 r.2.2.2.2])∧LgIn B w0 w' d l out r.1∧Stays B out w w'
theorem Zv7 {r:Rc} (h:Zp r):sizeN (putR r).length=(frS r).length:=by
 rw [Zco h,Zh]
 have:=Zfx h
 unfold Good at this
 unfold sizeN
 rw [if_pos (by omega)]
 omega
theorem Jf (r:Rc) (LA:Option Addr) (ln lc:Nat) (BA:Option Addr) (bn bc:Nat) (w:World) (hin:∀ w',Below B w0 w'→RcIn w' LA ln lc BA bn bc r) (h:LgAt B w0 w d l out A n c L) (hr:LgR L) (ok:LOk T S L.dk) (hT:T≤80000) (hS:13≤S∧S≤10000000) (hroll:fitsP L (frS r).length=false→S≤100000) :
 Calls Tryz.prog 42 #[.pointer (some ⟨l,0,none⟩),.agg #[.int .i64 r.kind,.string ⟨r.key.toArray⟩,.int .i64 r.id,.int .i64 r.no,.int .i64 r.size,.slice LA ln lc,.slice BA bn bc]] w (LaTo B w0 d l out w (laddP L r)):=by
 have hm1:=Whole.made w 39 #[.int .i64 r.kind,.string ⟨r.key.toArray⟩,.int .i64 r.id,.int .i64 r.no,.int .i64 r.size,.slice LA ln lc,.slice BA bn bc]
 have hg1:=Za w (.cells #[.int .i64 r.kind,.string ⟨r.key.toArray⟩,.int .i64 r.id,.int .i64 r.no,.int .i64 r.size,.slice LA ln lc,.slice BA bn bc] 39)
 have hz1:=World.size_alloc w (.cells #[.int .i64 r.kind,.string ⟨r.key.toArray⟩,.int .i64 r.id,.int .i64 r.no,.int .i64 r.size,.slice LA ln lc,.slice BA bn bc] 39)
 obtain ⟨w1,hw1⟩:∃ y,w.alloc (.cells #[.int .i64 r.kind,.string ⟨r.key.toArray⟩,.int .i64 r.id,.int .i64 r.no,.int .i64 r.size,.slice LA ln lc,.slice BA bn bc] 39)=y:=⟨_,rfl⟩
 rw [hw1] at hm1 hg1 hz1
 have hmo:=h.more hg1
 obtain ⟨out',hout'⟩:∃ o:Nat→Prop,(fun k=>out k∨(w.heap.size≤k∧k < w1.heap.size))=o:=⟨_,rfl⟩
 rw [hout'] at hmo
 have hob:out' w.heap.size:=by rw [←hout'];exact .inr ⟨Nat.le_refl _,by omega⟩
 obtain ⟨x0,x1,x2,x3,x4,x5,x6⟩:=box7 hm1
 have H1:=hid hmo
 have HG1:=hid hg1
 have HM1:=hid (And.intro hm1 hob)
 have HIN:=hid hin
 have HOU:=hid (show ∀ k,out k→out' k from fun k hk=>by rw [←hout'];exact .inl hk)
 have HNUM:=hid (show 13≤S∧S≤10000000∧T≤80000 by omega)
 have HRL:=hid hroll
 have HK:=hid (And.intro hr ok)
 have hri:=Zgv r LA ln lc BA bn bc w1 (hin w1 hmo.dk.low)
 obtain ⟨rr,hrr⟩:∃ rr,laddP L r=rr:=⟨_,rfl⟩
 rw [hrr]
 unfold laddP at hrr
 clear h hm1 hg1 hmo hin hroll hr ok hT hS hz1 hob hout'
 by_cases hright:Zp r
 rotate_left 1
 ·rw [decide_eq_false hright] at hri
  rw [if_neg hright] at hrr
  subst hrr
  have HRI:=hid hri
  clear hri hright
  go_enter Tryz.func42,Tryz.ntmps42
  go_wp2_with (fail)
  refine HRI.out.mono ?_
  rintro e w2 ⟨rfl,hg2⟩
  have HG2:=hid hg2
  clear hg2
  go_wp2_with (fail)
  refine bodyPost_ret (Y8 rfl _ _ _) rfl ?_
  exact ⟨rfl,((H1.out.grow HG2.out).less HOU.out).in,Stays.grows (Grows.trans HG1.out HG2.out)⟩
 rw [decide_eq_true hright] at hri
 rw [if_pos hright] at hrr
 have hpl:=Zk8 r
 have hsz:=Zv7 hright
 have hfl:=Yv r
 obtain ⟨fl,hfle⟩:∃ fl,(frS r).length=fl:=⟨_,rfl⟩
 rw [hfle] at hrr hsz hfl HRL
 obtain ⟨pl,hple⟩:∃ pl,(putR r).length=pl:=⟨_,rfl⟩
 rw [hple] at hsz hpl
 have hfs:=fun w'=>Yw (pl:Int) w' (by omega) (by omega)
 rw [hsz] at hfs
 have HFS:=hid hfs
 have HPU:=hid (fun w' (hg:Grows w1 w')=>Zrf r LA ln lc BA bn bc w' (HIN.out w' (H1.out.grow hg).dk.low))
 have HFI:=hid (fun w' (hg:Grows w1 w')=>Zp1 (fl:Int) (by omega) w' (H1.out.grow hg) HK.out.2.ok (by have:=HNUM.out;omega))
 obtain ⟨fb,hfb⟩:∃ fb,fitsP L fl=fb:=⟨_,rfl⟩
 rw [hfb] at hrr HFI HRL
 have HRI:=hid hri
 have HPL:=hid hple
 clear hri hsz hfl hfs hpl hple hright hfle hfb
 go_enter Tryz.func42,Tryz.ntmps42
 go_wp2_with (fail)
 clear hw1
 refine HRI.out.mono ?_
 rintro e w2 ⟨rfl,hg2⟩
 obtain ⟨x0,x1,x2,x3,x4,x5,x6⟩:=box7 (Grows.whole hg2 HM1.out.1)
 have HG2:=hid (show Grows w1 w2 from hg2)
 clear hg2 HRI
 go_wp2_with (fail)
 refine (HPU.out w2 HG2.out).mono ?_
 rintro e w3 ⟨A3,m3,c3,rfl,ho3,hg3⟩
 have hm3:m3=pl:=by
  have:=(Sl.owned ho3).len
  rw [←HPL.out]
  omega
 subst hm3
 have HG3:=hid (Grows.trans HG2.out (show Grows w2 w3 from hg3))
 clear ho3 hg3 HPU
 go_wp2_with (fail)
 refine (HFS.out w3).mono ?_
 rintro e w4 ⟨rfl,rfl⟩
 go_wp2_with (fail)
 refine (HFI.out w3 HG3.out).mono ?_
 rintro e w5 ⟨rfl,hg5⟩
 have H5:=hid (H1.out.grow (Grows.trans HG3.out hg5))
 have HB5:=hid ((Grows.trans HG3.out hg5).whole HM1.out.1)
 have ST5:=hid (show Stays B out' w1 w5 from Stays.grows (Grows.trans HG3.out hg5))
 clear hg5 HFI x0 x1 x2 x3 x4 x5 x6
 cases fb with
 | true =>
   rw [if_pos rfl] at hrr
   obtain ⟨L6,hL6⟩:∃ L6,L=L6:=⟨_,rfl⟩
   rw [hL6] at hrr H5 HK
   have H6:=H5
   have HBX:=HB5
   have ST6:=ST5
   have OK6:=hid (HK.out.2.mono (Nat.le_refl T) (Nat.le_refl S))
   clear H5 HB5 ST5 hL6
   have HF6:=hid (fun w' (hg:Zc (fun k=>B≤k∧¬ lgO l A (out') k) w5 w')=>(H6.out.fieldsS hg:LgF w' d l A n c L6.limit L6.man.next L6.last))
   have HB6:=hid (fun w' (hg:Zc (fun k=>B≤k∧¬ lgO l A (out') k) w5 w')=>box7 (Zt (out:=lgO l A (out')) hg HBX.out (.inl HM1.out.2)))
   have hadd:=fun w' (h6:LgAt B w0 w' d l (out') A n c L6)=>h6.dopO (f:=88) (args:=#[.pointer (some ⟨d,0,none⟩),.int .i64 L6.last,.agg #[.int .i64 r.kind,.string ⟨r.key.toArray⟩,.int .i64 r.id,.int .i64 r.no,.int .i64 r.size,.slice LA ln lc,.slice BA bn bc]]) (v:=.returned (.tuple #[.int .i64 (addP L6.dk L6.last r).2.1,.int .i64 (addP L6.dk L6.last r).2.2.1,.int .i64 (addP L6.dk L6.last r).2.2.2])) (m':=(addP L6.dk L6.last r).1) (Zip w' L6.last r (HIN.out w' h6.dk.low) h6.dk OK6.out.ok (by have:=HNUM.out;omega))
   obtain ⟨la,hla⟩:∃ la,L6.last=la:=⟨_,rfl⟩
   unfold addLP at hrr
   rw [hla] at HF6 hadd hrr
   obtain ⟨⟨m7,p7,q7,e7⟩,hq7⟩:∃ q,addP L6.dk la r=q:=⟨_,rfl⟩
   rw [hq7] at hrr
   simp only [hq7] at hadd
   dsimp only at hrr
   have HA:=hid hadd
   have HLA:=hid hla
   clear hadd hq7 hla
   go_wp2_with (fail)
   refine Za1 (G:=Grows) (E:=Zc (fun k=>B≤k∧¬ lgO l A (out') k)) 16 [Zv _ (.pointer (some ⟨l,0,none⟩)),Zv _ (.pointer (some ⟨l,0,none⟩)),Zv _ (.pointer (some ⟨l,0,none⟩)),Zv _ (.pointer (some ⟨d,0,none⟩)),Zv _ (.pointer (some ⟨l,0,none⟩)),Zv _ (.pointer (some ⟨l,0,none⟩)),Zv _ (.pointer (some ⟨l,4,none⟩)),Zv _ (.int .i64 la),Zv _ (.agg #[.int .i64 r.kind,.string ⟨r.key.toArray⟩,.int .i64 r.id,.int .i64 r.no,.int .i64 r.size,.slice LA ln lc,.slice BA bn bc]),wrJob _ (.tuple #[.int .i64 p7,.int .i64 q7,.int .i64 e7]) (fun w=>LgAt B w0 w d l (out') A n c (L6.on m7)) (fun _ _ h g=>LgAt.grow h g),Zv _ (.tuple #[.int .i64 p7,.int .i64 q7,.int .i64 e7]),Zv _ (.int .i64 p7),Zv _ (.int .i64 q7),Zv _ (.int .i64 e7),Zv _ (.int .i64 p7),Zv _ (.int .i64 q7)] [(false,false),(false,false),(false,false),(false,false),(false,false),(false,false),(false,false),(false,false),(false,false),(true,true),(false,false),(false,false),(false,false),(false,false),(false,false),(false,false)] (fun w=>LgAt B w0 w d l (out') A n c L6) rfl mixed (by kernel_rfl) (fun _ _=>Zc.grows) (fun _ _ _=>Zc.trans) (Zae _ _) (H6.out.grow (Zf _)) (fun _ _ h g=>LgAt.grow h g) ?_
   simp only [List.take_succ_cons,List.take_zero,List.drop_succ_cons,List.drop_zero]
   iterate 3
    refine j_val _ (by rfl) ?_ ?_
    ·intro w' hC;clear hC;go_simp
    simp only [Pu]
   refine j_val _ (by rfl) ?_ ?_
   ·intro w' hC;obtain ⟨z0,z1,z2,z3,z4⟩:=HF6.out w' hC;clear hC;go_simp
   simp only [Pu]
   iterate 3
    refine j_val _ (by rfl) ?_ ?_
    ·intro w' hC;clear hC;go_simp
    simp only [Pu]
   refine j_val _ (by rfl) ?_ ?_
   ·intro w' hC;obtain ⟨z0,z1,z2,z3,z4⟩:=HF6.out w' hC;clear hC;go_simp
   simp only [Pu]
   refine j_val _ (by rfl) ?_ ?_
   ·intro w' hC;obtain ⟨x0,x1,x2,x3,x4,x5,x6⟩:=HB6.out w' hC;clear hC;go_simp
   simp only [Pu]
   refine Zqq 88 #[.pointer (some ⟨d,0,none⟩),.int .i64 la,.agg #[.int .i64 r.kind,.string ⟨r.key.toArray⟩,.int .i64 r.id,.int .i64 r.no,.int .i64 r.size,.slice LA ln lc,.slice BA bn bc]] (.tuple #[.int .i64 p7,.int .i64 q7,.int .i64 e7]) (by rfl) (by intro w' hC;clear hC;go_simp) ?_ ?_
   ·intro w' hC hcls;exact HA.out w' hcls
   simp only [Pu]
   iterate 6
    refine j_val _ (by rfl) ?_ ?_
    ·intro w' hC;clear hC;go_simp
    simp only [Pu]
   refine Zgf ?_
   intro w9 hC hks hcls
   have HCw9:=hid hC
   have HLw9:=hid hcls
   clear hC hks hcls
   have H9:=hid (show LgAt B w0 w9 d l (out') A n c (L6.on m7) from HLw9.out)
   have ST9:=hid (ST6.out.trans (Zs (show Stays B (lgO l A (out')) w5 w9 from HCw9.out) fun k hk=>Or.inl hk))
   obtain ⟨y0,y1,y2,y3,y4⟩:=H9.out.fields (Grows.refl _)
   have y4b:w9.cell? { block:=l,off:=4 }=some (.int .i64 la):=by rw [y4];show some (Value.int .i64 L6.last)=_;rw [HLA.out]
   clear y0 y1 y2 y3 y4
   by_cases he7:e7=0
   ·subst he7
    rw [if_pos rfl] at hrr
    subst hrr
    go_wp2_with (fail)
    refine bodyPost_ret (Y8 rfl _ _ _) rfl ?_
    exact ⟨rfl,(H9.out.less HOU.out).in,(Stays.grows HG1.out).trans (Zs ST9.out HOU.out)⟩
   ·have heb:(e7 != 0)=true:=by rw [bne_iff_ne];exact he7
    rw [if_neg he7] at hrr
    subst hrr
    clear he7
    go_wp2_with (fail)
    refine bodyPost_ret (Y8 rfl _ _ _) rfl ?_
    exact ⟨rfl,(H9.out.less HOU.out).in,(Stays.grows HG1.out).trans (Zs ST9.out HOU.out)⟩
 | false =>
   rw [if_neg (by decide)] at hrr
   have hro:=Zf1 w5 H5.out HK.out.1 HK.out.2 (by have:=HNUM.out;omega) (by have:=HNUM.out;have:=HRL.out rfl;omega)
   have hla:=HK.out.1.last
   have hokr:=LOk.roll HK.out.2 (by have:=HNUM.out;omega) (hla.imp id fun h=>HK.out.1.seg h)
   obtain ⟨⟨L6,e6⟩,hq6⟩:∃ q,rollP L=q:=⟨_,rfl⟩
   rw [hq6] at hrr hro hokr
   dsimp only at hrr hokr
   have HRO:=hid hro
   have OK6:=hid hokr
   clear hro hla hokr hq6
   go_wp2_with (fail)
   refine HRO.out.mono ?_
   rintro e w6 ⟨rfl,h6,st6⟩
   have HI6:=hid (show LgIn B w0 w6 d l out' L6 from h6)
   have ST6:=hid (ST5.out.trans st6)
   have HBX:=hid (Zt st6 HB5.out HM1.out.2)
   clear h6 st6 HRO
   dsimp only
   by_cases he6:e6=0
   rotate_left 1
   ·have heb:(e6 != 0)=true:=by rw [bne_iff_ne];exact he6
    rw [if_neg he6] at hrr
    subst hrr
    clear he6
    go_wp2_with (fail)
    refine bodyPost_ret (Y8 rfl _ _ _) rfl ?_
    exact ⟨rfl,HI6.out.less HOU.out,(Stays.grows HG1.out).trans (Zs ST6.out HOU.out)⟩
   subst he6
   rw [if_pos rfl] at hrr
   obtain ⟨A6,n6,c6,h6⟩:=HI6.out
   have H6:=hid h6
   clear h6 HI6
   have HF6:=hid (fun w' (hg:Zc (fun k=>B≤k∧¬ lgO l A6 (out') k) w6 w')=>(H6.out.fieldsS hg:LgF w' d l A6 n6 c6 L6.limit L6.man.next L6.last))
   have HB6:=hid (fun w' (hg:Zc (fun k=>B≤k∧¬ lgO l A6 (out') k) w6 w')=>box7 (Zt (out:=lgO l A6 (out')) hg HBX.out (.inl HM1.out.2)))
   have hadd:=fun w' (h6:LgAt B w0 w' d l (out') A6 n6 c6 L6)=>h6.dopO (f:=88) (args:=#[.pointer (some ⟨d,0,none⟩),.int .i64 L6.last,.agg #[.int .i64 r.kind,.string ⟨r.key.toArray⟩,.int .i64 r.id,.int .i64 r.no,.int .i64 r.size,.slice LA ln lc,.slice BA bn bc]]) (v:=.returned (.tuple #[.int .i64 (addP L6.dk L6.last r).2.1,.int .i64 (addP L6.dk L6.last r).2.2.1,.int .i64 (addP L6.dk L6.last r).2.2.2])) (m':=(addP L6.dk L6.last r).1) (Zip w' L6.last r (HIN.out w' h6.dk.low) h6.dk OK6.out.ok (by have:=HNUM.out;omega))
   obtain ⟨la,hla⟩:∃ la,L6.last=la:=⟨_,rfl⟩
   unfold addLP at hrr
   rw [hla] at HF6 hadd hrr
   obtain ⟨⟨m7,p7,q7,e7⟩,hq7⟩:∃ q,addP L6.dk la r=q:=⟨_,rfl⟩
   rw [hq7] at hrr
   simp only [hq7] at hadd
   dsimp only at hrr
   have HA:=hid hadd
   have HLA:=hid hla
   clear hadd hq7 hla
   go_wp2_with (fail)
   refine Za1 (G:=Grows) (E:=Zc (fun k=>B≤k∧¬ lgO l A6 (out') k)) 16 [Zv _ (.pointer (some ⟨l,0,none⟩)),Zv _ (.pointer (some ⟨l,0,none⟩)),Zv _ (.pointer (some ⟨l,0,none⟩)),Zv _ (.pointer (some ⟨d,0,none⟩)),Zv _ (.pointer (some ⟨l,0,none⟩)),Zv _ (.pointer (some ⟨l,0,none⟩)),Zv _ (.pointer (some ⟨l,4,none⟩)),Zv _ (.int .i64 la),Zv _ (.agg #[.int .i64 r.kind,.string ⟨r.key.toArray⟩,.int .i64 r.id,.int .i64 r.no,.int .i64 r.size,.slice LA ln lc,.slice BA bn bc]),wrJob _ (.tuple #[.int .i64 p7,.int .i64 q7,.int .i64 e7]) (fun w=>LgAt B w0 w d l (out') A6 n6 c6 (L6.on m7)) (fun _ _ h g=>LgAt.grow h g),Zv _ (.tuple #[.int .i64 p7,.int .i64 q7,.int .i64 e7]),Zv _ (.int .i64 p7),Zv _ (.int .i64 q7),Zv _ (.int .i64 e7),Zv _ (.int .i64 p7),Zv _ (.int .i64 q7)] [(false,false),(false,false),(false,false),(false,false),(false,false),(false,false),(false,false),(false,false),(false,false),(true,true),(false,false),(false,false),(false,false),(false,false),(false,false),(false,false)] (fun w=>LgAt B w0 w d l (out') A6 n6 c6 L6) rfl mixed (by kernel_rfl) (fun _ _=>Zc.grows) (fun _ _ _=>Zc.trans) (Zae _ _) (H6.out.grow (Zf _)) (fun _ _ h g=>LgAt.grow h g) ?_
   simp only [List.take_succ_cons,List.take_zero,List.drop_succ_cons,List.drop_zero]
   iterate 3
    refine j_val _ (by rfl) ?_ ?_
    ·intro w' hC;clear hC;go_simp
    simp only [Pu]
   refine j_val _ (by rfl) ?_ ?_
   ·intro w' hC;obtain ⟨z0,z1,z2,z3,z4⟩:=HF6.out w' hC;clear hC;go_simp
   simp only [Pu]
   iterate 3
    refine j_val _ (by rfl) ?_ ?_
    ·intro w' hC;clear hC;go_simp
    simp only [Pu]
   refine j_val _ (by rfl) ?_ ?_
   ·intro w' hC;obtain ⟨z0,z1,z2,z3,z4⟩:=HF6.out w' hC;clear hC;go_simp
   simp only [Pu]
   refine j_val _ (by rfl) ?_ ?_
   ·intro w' hC;obtain ⟨x0,x1,x2,x3,x4,x5,x6⟩:=HB6.out w' hC;clear hC;go_simp
   simp only [Pu]
   refine Zqq 88 #[.pointer (some ⟨d,0,none⟩),.int .i64 la,.agg #[.int .i64 r.kind,.string ⟨r.key.toArray⟩,.int .i64 r.id,.int .i64 r.no,.int .i64 r.size,.slice LA ln lc,.slice BA bn bc]] (.tuple #[.int .i64 p7,.int .i64 q7,.int .i64 e7]) (by rfl) (by intro w' hC;clear hC;go_simp) ?_ ?_
   ·intro w' hC hcls;exact HA.out w' hcls
   simp only [Pu]
   iterate 6
    refine j_val _ (by rfl) ?_ ?_
    ·intro w' hC;clear hC;go_simp
    simp only [Pu]
   refine Zgf ?_
   intro w9 hC hks hcls
   have HCw9:=hid hC
   have HLw9:=hid hcls
   clear hC hks hcls
   have H9:=hid (show LgAt B w0 w9 d l (out') A6 n6 c6 (L6.on m7) from HLw9.out)
   have ST9:=hid (ST6.out.trans (Zs (show Stays B (lgO l A6 (out')) w6 w9 from HCw9.out) fun k hk=>Or.inl hk))
   obtain ⟨y0,y1,y2,y3,y4⟩:=H9.out.fields (Grows.refl _)
   have y4b:w9.cell? { block:=l,off:=4 }=some (.int .i64 la):=by rw [y4];show some (Value.int .i64 L6.last)=_;rw [HLA.out]
   clear y0 y1 y2 y3 y4
   by_cases he7:e7=0
   ·subst he7
    rw [if_pos rfl] at hrr
    subst hrr
    go_wp2_with (fail)
    refine bodyPost_ret (Y8 rfl _ _ _) rfl ?_
    exact ⟨rfl,(H9.out.less HOU.out).in,(Stays.grows HG1.out).trans (Zs ST9.out HOU.out)⟩
   ·have heb:(e7 != 0)=true:=by rw [bne_iff_ne];exact he7
    rw [if_neg he7] at hrr
    subst hrr
    clear he7
    go_wp2_with (fail)
    refine bodyPost_ret (Y8 rfl _ _ _) rfl ?_
    exact ⟨rfl,(H9.out.less HOU.out).in,(Stays.grows HG1.out).trans (Zs ST9.out HOU.out)⟩
end
end Go.Proofs.YtkelafkbmnjpeaaGreat
namespace Go.Proofs.YtkelafkbmnjpeaaGreat
open Go.Shelf
def delLg_ren:Go.Shelf.Ren:=⟨fun | 10=>83 | 6=>143 | n=>n,fun | 22=>40 | 23=>3 | 25=>130 | 3=>3 | 4=>4 | 0=>0 | n=>n,fun | n=>n⟩
theorem delLg:Go.Proofs.SlLaysH.n10 Tryz.prog delLg_ren:={
  mixed:=by kernel_rfl
  f6:=⟨Tryz.f143.name,by decide,Tryz.func143.trans (congrArg some (by kernel_rfl))⟩
  f10:=⟨Tryz.f83.name,by decide,Tryz.func83.trans (congrArg some (by kernel_rfl))⟩
  t0:=Tryz.underlying0
  a0:=Tryz.isAgg0
  z0:=Tryz.sizeOf0
  v0:=Tryz.zeroValue0
  t3:=Tryz.underlying3
  a3:=Tryz.isAgg3
  z3:=Tryz.sizeOf3
  v3:=Tryz.zeroValue3
  t4:=Tryz.underlying4
  a4:=Tryz.isAgg4
  z4:=Tryz.sizeOf4
  v4:=Tryz.zeroValue4
  t22:=Tryz.underlying40
  a22:=Tryz.isAgg40
  z22:=Tryz.sizeOf40
  v22:=Tryz.zeroValue40
  a23:=Tryz.isAgg3
  z23:=Tryz.sizeOf3
  t25:=Tryz.underlying130
  a25:=Tryz.isAgg130
  z25:=Tryz.sizeOf130
  v25:=Tryz.zeroValue130 }
end Go.Proofs.YtkelafkbmnjpeaaGreat
