/-
  Texts that the statements lean on, one behind the other.
-/
import Derived.Test.YtkelafkbmnjpeaaGreatMG39
import Derived.Test.YtkelafkbmnjpeaaGreatLgHead
import Derived.Test.YtkelafkbmnjpeaaGreatMG40
import Derived.Test.YtkelafkbmnjpeaaGreatMG17
import Derived.Test.YtkelafkbmnjpeaaGreatMG09
set_option maxHeartbeats 16000000
set_option maxRecDepth 100000
namespace Go.Proofs.YtkelafkbmnjpeaaGreat
open Go.Lib (hid)
open Go.RowKit
theorem Zr3 {m:Dk} {l:List Int} {j:Nat} {y:Int} (h:l[j]?=some y):recN m (l.take (j+1))=recN m (l.take j)+recO m y:=by
 unfold recN
 rw [List.take_add_one,h,Option.toList_some,List.map_append,List.sum_append]
 simp
theorem Zr4 {m:Dk} {K:Nat}:∀ {l:List Int},(∀ y∈l,recO m y≤K)→recN m l≤l.length*K
 | [],_=>by simp [recN]
 | y :: l,h=>by
   have h1:=h y (List.mem_cons_self ..)
   have h2:=Zr4 (m:=m) (K:=K) (l:=l) fun z hz=>h z (List.mem_cons_of_mem _ hz)
   unfold recN at h2 ⊢
   rw [List.map_cons,List.sum_cons,List.length_cons,Nat.succ_mul]
   omega
theorem Zvt {m:Dk} {T S:Nat} {y:Int} (ok:LOk T S m) (hy:0≤y∧y≤99999999):recO m y≤S:=by
 have h1:=Ze8 m y
 have h2:=(ok.size hy).2
 unfold recO
 split <;> omega
theorem Zkj {w w':World} {row:Option Nat} {B:Nat} (hg:w.grownBy w' row) (hB:B≤w.heap.size) (hr:∀ g,row=some g→B≤g):Below B w w':=by
 have hs:Zc (fun k=>row=some k) w w':=(Zc.refl (fun k=>row=some k) w).grown hg fun g e=>e
 exact hs.below hB fun k hk e=>by have:=hr k e;omega
theorem Zlu {w w':World} {b1 b2:Nat} {e1 e2:TypeId} {s1 s2:Nat} {v1 v2:Value} {n1 n2:Nat} {xs1 xs2:List Value} (h1:w.ownsRow b1 e1 s1 v1 n1 xs1) (h2:w.ownsRow b2 e2 s2 v2 n2 xs2) (hne:e1≠e2) (hg:w.grownBy w' v2.ownBlock):w'.ownsRow b1 e1 s1 v1 n1 xs1:=by
 refine Z2 h1 fun k hk=>hg.block k (h1.lt k hk).2 fun e=>?_
 rcases h1.2 with ⟨rfl,_⟩ | ⟨g,cap,cur,rfl,_,hg1,_⟩
 ·simp [Value.ownBlock] at hk
 rcases h2.2 with ⟨rfl,_⟩ | ⟨g',cap',cur',rfl,_,hg2,_⟩
 ·simp [Value.ownBlock] at e
 ·obtain rfl:g=k:=by simpa [Value.ownBlock] using hk
  obtain rfl:g=g':=by simpa [Value.ownBlock] using e
  rw [hg1] at hg2
  injection hg2 with hg2
  injection hg2 with _ ht _
  exact hne ht
theorem infoRc:(Tryz.prog.info? 39).map (fun i=>(i.zero,i.size,i.bytes))=some (some (.agg #[.int .i64 0,.string ⟨#[]⟩,.int .i64 0,.int .i64 0,.int .i64 0,.slice none 0 0,.slice none 0 0]),7,96):=by kernel_rfl
theorem Zvu {w:World} {g:Nat} {v0 v1 v2 v3 v4 v5 v6:Value} (h:Whole w g 39 #[v0,v1,v2,v3,v4,v5,v6]):Row w w.heap.size (some ⟨g,0,none⟩) 7 [v0,v1,v2,v3,v4,v5,v6] :=
 ⟨rfl,fun k v hv=>⟨⟨g,0,none⟩,rfl,h.lt,by
  rw [show (⟨g,0,none⟩:Addr).add k=⟨g,k,none⟩ by unfold Addr.add;split <;> simp_all,h.cell k]
  simpa using hv⟩⟩
def Zwg (w:World) (N:Nat) (e:Ending) (w':World):Prop:=∃ A c,e=.returned (.slice A N c)∧Grows w w'
section
variable {B d l T S:Nat} {w0:World} {out:Nat→Prop} {L:Lg}
attribute [local irreducible] wpF
theorem Zge (w:World) (h:LgIn B w0 w d l out L) (hr:LgR L) (ok:LOk T S L.dk) (hT:T≤150000) (hS:S≤70000) :
 Calls Tryz.prog 46 #[.pointer (some ⟨d,0,none⟩),.pointer (some ⟨l,0,none⟩)] w (Zwg w (recN L.dk L.man.segs)):=by
 obtain ⟨A0,n,c0,hat⟩:=h
 obtain ⟨i1,hi1,hz1,hy1,hb1⟩:=info_parts infoRc
 have HI1:=hid (And.intro hi1 (And.intro hz1 (And.intro hy1 hb1)))
 have HSG:=hid (Zap hat hr)
 have HD:=hid hat.dk
 have HN:=hid (show n≤1000∧L.man.segs.length=n from ⟨by rw [←hat.ints.len];exact hr.few,hat.ints.len⟩)
 have HK:=hid (show DkOk 300000 L.dk from ok.ok.mono (by omega))
 have HRO:=hid (fun y (hy:y∈L.man.segs)=>And.intro (hr.seg hy) (Nat.le_trans (Zvt ok (hr.seg hy)) (show S≤100000 by omega)))
 clear hat ok hi1 hz1 hy1 hb1
 go_enter Tryz.func46,Tryz.ntmps46
 go_wp2_with (fail)
 refine HSG.out.mono ?_
 rintro e w1 ⟨A1,c1,rfl,ho1,hg1⟩
 have HG1:=hid hg1
 have HSI:=hid (Ints.owned ho1)
 clear ho1 hg1 HSG
 go_wp2_with (fail)
 go_loopw [5,7] (fun vo vi wr=>∃ (j q:Nat) (A:Option Addr) (c:Nat) (xs:List Value),j≤n∧vo=.slice A q c∧vi=.int .i64 (j:Nat)∧Hid (recN L.dk (L.man.segs.take j)=q)∧Hid (wr.ownsRow w1.heap.size 39 7 (.slice A q c) q xs)∧Hid (Grows w1 wr)) (fun _ i _=>n - (intOf i).toNat)
 case atStart=>exact ⟨0,0,none,0,[],Nat.zero_le _,rfl,rfl,hid rfl,hid (World.ownsRow_nil _ _ _ _),hid (Grows.refl _)⟩
 case round =>
  obtain ⟨j,q,A,c,xs,hj,rfl,rfl,HQ,HO,HG⟩:=hrel
  obtain ⟨wo,rfl⟩:∃ x,x=wr:=⟨_,rfl⟩
  by_cases hlt:j < n
  rotate_left 1
  ·obtain rfl:j=n:=by omega
   have hlt':¬ ((j:Int) < (j:Int)):=by omega
   have HQE:=hid (show q=recN L.dk L.man.segs by rw [←HQ.out,List.take_of_length_le (by rw [HN.out.2];exact Nat.le_refl _)])
   clear hlt
   go_wp2_with (fail)
   go_ret
   exact ⟨A,c,by rw [←HQE.out];rfl,Grows.trans HG1.out HG.out⟩
  have hlt':(j:Int) < (n:Int):=by omega
  have hj0:(0:Int)≤(j:Int):=by omega
  have e5:IntKind.i64.wrap ((j:Int)+1)=(j:Int)+1:=IntWalk.i64_in _ ⟨by omega,by have:=HN.out;omega⟩
  have HLT:=hid hlt
  obtain ⟨ad,y,rfl,hc1,hx1,_⟩:=(HSI.out.grow HG.out).get hlt
  have hy:=HRO.out y (List.mem_of_getElem? hx1)
  have HAL:=hid (Zg9 wo y ⟨by omega,by omega⟩ (HD.out.grow (Grows.trans HG1.out HG.out)) HK.out (by omega))
  have HQ2:=hid (show recN L.dk (L.man.segs.take (j+1))=q+recO L.dk y by rw [Zr3 hx1,HQ.out])
  have HQB:=hid (show q≤100000000∧recO L.dk y≤100000 from ⟨by
   rw [←HQ.out]
   refine Nat.le_trans (Zr4 (K:=100000) fun z hz=>(HRO.out z (List.mem_of_mem_take hz)).2) ?_
   have h1:=HN.out.1
   have h2:(L.man.segs.take j).length≤j:=by rw [List.length_take];omega
   have h3:(L.man.segs.take j).length≤1000:=by omega
   exact Nat.mul_le_mul_right 100000 h3,hy.2⟩)
  unfold recO at HQ2 HQB
  obtain ⟨⟨Fs,bad,er⟩,hfv⟩:∃ v,Ye L.dk y=v:=⟨_,rfl⟩
  rw [hfv] at HAL HQ2 HQB
  dsimp only at HQ2 HQB
  clear hx1 hy hfv hlt
  go_wp2_with (fail)
  refine HAL.out.mono ?_
  rintro e w3 ⟨A3,c3,ls,rfl,ho3,hm3,hg3⟩
  have HO3:=hid (Zd HO.out hg3)
  have HG3:=hid (Grows.trans HG.out hg3)
  obtain ⟨k3,hk3⟩:∃ k,ls.length=k:=⟨_,rfl⟩
  have HFL:=hid (show Fs.length=k3 by rw [←hm3,List.length_map];exact hk3)
  have HLE:=hid hk3
  rw [hk3] at ho3
  have HF:=hid (show w3.ownsRow 0 145 9 (.slice A3 k3 c3) k3 (ls.flatMap fnE) from Zg ho3.own (Nat.zero_le _))
  rw [hk3]
  clear ho3 hm3 hg3 hk3 HAL hc1
  go_wp2_with (fail)
  go_loopw [5,11] (fun vo vk wx=>∃ (k q':Nat) (A':Option Addr) (c':Nat) (xs':List Value),k≤k3∧vo=.slice A' q' c'∧vk=.int .i64 (k:Nat)∧Hid (q'=q+k∧(er≠0→k=0))∧Hid (wx.ownsRow w1.heap.size 39 7 (.slice A' q' c') q' xs')∧Hid (wx.ownsRow 0 145 9 (.slice A3 k3 c3) k3 (ls.flatMap fnE))∧Hid (Grows w1 wx)) (fun _ i _=>k3 - (intOf i).toNat)
  case atStart=>exact ⟨0,q,A,c,xs,Nat.zero_le _,rfl,rfl,hid ⟨rfl,fun _=>rfl⟩,HO3,HF,HG3⟩
  case round =>
   obtain ⟨k,q',A',c',xs',hk,rfl,rfl,HQ',HO',HF',HG'⟩:=hrel
   by_cases he:er=0
   rotate_left 1
   ·have he':(er==0)=false:=by rw [beq_eq_false_iff_ne];exact he
    have HE:=hid (show recN L.dk (L.man.segs.take (j+1))=q' by
     have h1:=HQ2.out
     have h2:=HQ'.out
     rw [if_neg he] at h1
     rw [h1,h2.1,h2.2 he])
    by_cases hkk:(k:Int) < (k3:Int)
    ·clear he
     go_wp2_with (fail)
     exact ⟨⟨j+1,q',A',c',xs',HLT.out,rfl,rfl,HE,HO',HG'⟩,Yg HLT.out⟩
    ·clear he
     go_wp2_with (fail)
     exact ⟨⟨j+1,q',A',c',xs',HLT.out,rfl,rfl,HE,HO',HG'⟩,Yg HLT.out⟩
   subst he
   by_cases hkl:k < k3
   rotate_left 1
   ·obtain rfl:k=k3:=by omega
    have hkk:¬ ((k:Int) < (k:Int)):=by omega
    have HE:=hid (show recN L.dk (L.man.segs.take (j+1))=q' by
     have h1:=HQ2.out
     have h2:=HQ'.out
     rw [if_pos rfl] at h1
     rw [h1,h2.1,HFL.out])
    clear hkl
    go_wp2_with (fail)
    exact ⟨⟨j+1,q',A',c',xs',HLT.out,rfl,rfl,HE,HO',HG'⟩,Yg HLT.out⟩
   have hkk:(k:Int) < (k3:Int):=by omega
   have hk0:(0:Int)≤(k:Int):=by omega
   have hkb:k3≤100000:=by have h1:=HQB.out.2;rw [if_pos rfl,HFL.out] at h1;exact h1
   have ek:IntKind.i64.wrap ((k:Int)+1)=(k:Int)+1:=IntWalk.i64_in _ ⟨by omega,by omega⟩
   have HKL:=hid (show k < k3∧k3≤100000 from ⟨hkl,hkb⟩)
   have HQL:=hid (show q'≤101000000 by have h1:=HQB.out.1;have h2:=HQ'.out.1;omega)
   obtain ⟨x,hx⟩:∃ x,ls[k]?=some x:=⟨_,List.getElem?_eq_getElem (by rw [HLE.out];exact hkl)⟩
   obtain ⟨g,rfl,hg,kc⟩:=(Rw.owned fnL HLE.out HF'.out).spot k x hx
   obtain ⟨⟨fa,fs,r⟩,⟨L1,a1,b1⟩,⟨B1,d1,e1⟩⟩:=x
   obtain ⟨s1,hs1⟩:∃ s:ByteArray,(⟨r.key.toArray⟩:ByteArray)=s:=⟨_,rfl⟩
   have x2:wr.cell? { block:=g,off:=k*9+2 }=some (.int .i64 r.kind):=kc 2 (by omega)
   have x3:wr.cell? { block:=g,off:=k*9+3 }=some (.string ⟨r.key.toArray⟩):=kc 3 (by omega)
   have x4:wr.cell? { block:=g,off:=k*9+4 }=some (.int .i64 r.id):=kc 4 (by omega)
   have x5:wr.cell? { block:=g,off:=k*9+5 }=some (.int .i64 r.no):=kc 5 (by omega)
   have x6:wr.cell? { block:=g,off:=k*9+6 }=some (.int .i64 r.size):=kc 6 (by omega)
   have x7:wr.cell? { block:=g,off:=k*9+7 }=some (.slice L1 a1 b1):=kc 7 (by omega)
   have x8:wr.cell? { block:=g,off:=k*9+8 }=some (.slice B1 d1 e1):=kc 8 (by omega)
   rw [hs1] at x3
   obtain ⟨wm,hwm⟩:∃ z,wr.alloc (.cells #[.int .i64 r.kind,.string s1,.int .i64 r.id,.int .i64 r.no,.int .i64 r.size,.slice L1 a1 b1,.slice B1 d1 e1] 39)=z:=⟨_,rfl⟩
   have hgm:Grows wr wm:=by rw [←hwm];exact Za _ _
   have HMM:=hid (Zvu (show Whole wm wr.heap.size 39 #[.int .i64 r.kind,.string s1,.int .i64 r.id,.int .i64 r.no,.int .i64 r.size,.slice L1 a1 b1,.slice B1 d1 e1] by rw [←hwm];exact Whole.made _ _ _))
   have HGM:=hid (Grows.trans HG'.out hgm)
   have HOM:=hid (Zd HO'.out hgm)
   have HFM:=hid (Zd HF'.out hgm)
   have HWM:=hid hwm
   clear hgm hs1 hwm kc hx hkl hkb hg
   go_wp2_with (first
    | rw [HWM.out]
    | (at_builtin
       refine Zgr rfl (.tmp 40) (.tmp 46) 72 rfl w1.heap.size 39 i1 (.agg #[.int .i64 0,.string ⟨#[]⟩,.int .i64 0,.int .i64 0,.int .i64 0,.slice none 0 0,.slice none 0 0]) 7 96 Tryz.underlying72 HI1.out.1 HI1.out.2.1 HI1.out.2.2.1 HI1.out.2.2.2 rfl (by decide) rfl
        HOM.out rfl HMM.out (fun h=>by cases h) (by intro u hu;simp only [List.mem_cons,List.not_mem_nil,or_false] at hu;rcases hu with rfl | rfl | rfl | rfl | rfl | rfl | rfl <;> rfl) (q'+1) rfl (by unfold maxLen;have:=HQL.out;omega) (by have:=HQL.out;omega) HGM.out.size ?_
       intro A9 c9 w10 hown9 hgrow9 hat9
       have HO9:=hid (And.intro hown9 (And.intro hgrow9 hat9))
       clear hown9 hgrow9 hat9)
    | fail)
   obtain ⟨hown9,hgrow9,hat9⟩:=HO9.out
   exact ⟨⟨k+1,q'+1,A9,c9,_,HKL.out.1,rfl,rfl,hid ⟨by have:=HQ'.out.1;omega,fun e=>absurd rfl e⟩,hid hown9,hid (Zlu HFM.out HOM.out (by decide) hgrow9),hid (Below.trans HGM.out (Zkj hgrow9 HGM.out.size fun g e=>(HOM.out.lt g e).1))⟩,Yg HKL.out.1⟩
end
end Go.Proofs.YtkelafkbmnjpeaaGreat
namespace Go.Proofs.YtkelafkbmnjpeaaGreat
open Go.ChangeShapes Go.WideShapes Go.ChangeAt Go.RowKit
theorem Zgl {H:Type} {P:Program} {e:TypeId} {x:Nat} {d:DataW H}:∀ {l:List (DataW H)},d∈l→x∈d.weights P e→x∈DataW.weightsAll P e l
 | _ :: _,h,hx=>by
   unfold DataW.weightsAll
   rcases List.mem_cons.1 h with rfl | h
   ·exact List.mem_append_left _ hx
   ·exact List.mem_append_right _ (Zgl h hx)
section
variable {H:Type} {enc:TypeId×Value→H} {P:Program} {W:World} {base:Nat} {r:Reach}
end
end Go.Proofs.YtkelafkbmnjpeaaGreat
set_option maxRecDepth 100000
namespace Go.Proofs.YtkelafkbmnjpeaaGreat
open Go.ChangeShapes Go.WideShapes Go.ChangeAt Go.RowKit
structure O15 where
 what:Int
 x:Rc
 n:Int
 at':Int
 segs:List Int
 bytes:List Int
 bits:Int
structure P15 where
 LA:Option Addr
 ln:Nat
 lc:Nat
 BA:Option Addr
 bn:Nat
 bc:Nat
 SA:Option Addr
 sn:Nat
 sc:Nat
 IA:Option Addr
 im:Nat
 ic:Nat
instance:Inhabited O15:=⟨⟨0,Rc.none,0,0,[],[],0⟩⟩
instance:Inhabited P15:=⟨⟨none,0,0,none,0,0,none,0,0,none,0,0⟩⟩
def o15V (o:O15) (p:P15):List Value:=[.int .i64 o.what,.int .i64 o.x.kind,.string ⟨o.x.key.toArray⟩,.int .i64 o.x.id,.int .i64 o.x.no,.int .i64 o.x.size,.slice p.LA p.ln p.lc,.slice p.BA p.bn p.bc,.int .i64 o.n,.int .i64 o.at',.slice p.SA p.sn p.sc,.slice p.IA p.im p.ic,.int .u32 o.bits]
structure O15At (w:World) (o:O15) (p:P15):Prop where
 what:-9223372036854775808≤o.what∧o.what≤9223372036854775807
 n:-9223372036854775808≤o.n∧o.n≤9223372036854775807
 x:RcIn w p.LA p.ln p.lc p.BA p.bn p.bc o.x
 at':-9223372036854775808≤o.at'∧o.at'≤9223372036854775807
 segs:Ints w p.SA p.sn p.sc o.segs
 eachS:∀ x∈o.segs,-9223372036854775808≤x∧x≤9223372036854775807
 bytes:Ints w p.IA p.im p.ic o.bytes
 each:∀ x∈o.bytes,-9223372036854775808≤x∧x≤9223372036854775807
 bits:0≤o.bits∧o.bits≤4294967295
 small:o.x.key.length≤140737488351232∧o.x.locs.length≤140737488351232∧o.x.b.length≤140737488351232∧o.bytes.length≤140737488351232∧o.segs.length≤140737488351232
structure Ops15 (w:World) (A:Option Addr) (n c:Nat) (os:List O15):Prop where
 len:os.length=n
 cap:n≤c
 top:n≤140737488351232
 spot:∀ i,i < n→∃ (ad:Addr) (o:O15) (p:P15),A=some ad∧ad.block < w.heap.size∧os[i]?=some o∧O15At w o p∧∀ k,k < 13→w.cell? ((ad.add (i*13)).add k)=(o15V o p)[k]?
theorem O15At.grow {w w':World} {o:O15} {p:P15} (h:O15At w o p) (hg:Grows w w'):O15At w' o p:=⟨h.what,h.n,h.x.grow hg,h.at',h.segs.grow hg,h.eachS,h.bytes.grow hg,h.each,h.bits,h.small⟩
theorem Ops15.grow {w w':World} {A:Option Addr} {n c:Nat} {os:List O15} (h:Ops15 w A n c os) (hg:Grows w w'):Ops15 w' A n c os :=
 ⟨h.len,h.cap,h.top,fun i hi=>by
  obtain ⟨ad,o,p,h1,h2,h3,h4,h5⟩:=h.spot i hi
  exact ⟨ad,o,p,h1,Nat.lt_of_lt_of_le h2 hg.size,h3,h4.grow hg,fun k hk=>(hg.cell (by rw [Zk,Zk];exact h2)).trans (h5 k hk)⟩⟩
section
variable {H:Type} {enc:TypeId×Value→H} {W:World} {base:Nat} {r:Reach}
theorem Zkk {m:Nat} {a:Value} {x:DataW H×List MemPlace} (h:DataW.trod enc Tryz.prog W 0 (fun _=>true) true m 40 [a]=some x):∃ A n c xs,a=.slice A n c∧Ints W A n c xs∧(n=0∨c*8∈x.1.weights Tryz.prog 40)∧∀ x∈xs,-9223372036854775808≤x∧x≤9223372036854775807:=by
 rcases open_ints Tryz.underlying40 Tryz.underlying3 (by kernel_rfl) h with ⟨hcs,_⟩ | ⟨x,l,c,zs,hcs,_,hl,hm,hz,hx,hcell,hwz⟩
 ·simp at hcs
  exact ⟨none,0,0,[],hcs,⟨Row.nil _ _ _,Nat.le_refl _,fun _=>rfl⟩,.inl rfl,fun x hx=>by cases hx⟩
 ·simp at hcs
  have hz':zs.length=c:=by simpa using hz
  refine ⟨some x,l,c,zs.take l,hcs,⟨⟨?_,fun k v hk=>?_⟩,hl,(fun h=>by cases h)⟩,.inr ?_,fun y hy=>bounds_i64 (hwz y (List.mem_of_mem_take hy))⟩
  rotate_right 1
  ·rw [hx]
   simp only [DataW.weights,Tryz.underlying40]
   refine List.mem_cons.2 (.inl ?_)
   rw [show Tryz.prog.bytesOf 3=8 by kernel_rfl]
   simp only [lits,List.length_map,List.length_take,List.length_drop]
   congr 1
   omega
  ·rw [List.length_map,List.length_take]
   omega
  ·rw [List.getElem?_map,List.getElem?_take] at hk
   split at hk
   ·rename_i hkn
    have hkz:k < zs.length:=by omega
    rw [List.getElem?_eq_getElem hkz] at hk
    have hcl:=hcell k hkz
    refine ⟨x,rfl,by have:=World.block_lt_of_cell? W _ hcl;rwa [Zk] at this,?_⟩
    simp only [Option.map_some,Option.some.injEq] at hk
    rw [hcl,←hk,iV,List.getD_eq_getElem?_getD,List.getElem?_eq_getElem hkz]
    rfl
   ·cases hk
theorem Zsc {m:Nat} {a:Value} {x:DataW H×List MemPlace} (h:DataW.trod enc Tryz.prog W 0 (fun _=>true) true m 37 [a]=some x):∃ A n c bs,a=.slice A n c∧Sl W A n c bs∧(n=0∨c*1∈x.1.weights Tryz.prog 37):=by
 rcases open_ints Tryz.underlying37 Tryz.underlying5 (by kernel_rfl) h with ⟨hcs,_⟩ | ⟨x,l,c,zs,hcs,_,hl,hm,hz,hx,hcell,hwz⟩
 ·simp at hcs
  exact ⟨none,0,0,[],hcs,Sl.nil _,.inl rfl⟩
 ·simp at hcs
  have hz':zs.length=c:=by simpa using hz
  refine ⟨some x,l,c,(zs.take l).map (fun z=>UInt8.ofNat z.toNat),hcs,⟨⟨?_,?_⟩,hl,fun h=>by cases h⟩,.inr ?_⟩
  rotate_right 1
  ·rw [hx]
   simp only [DataW.weights,Tryz.underlying37]
   refine List.mem_cons.2 (.inl ?_)
   rw [show Tryz.prog.bytesOf 5=1 by kernel_rfl]
   simp only [lits,List.length_map,List.length_take,List.length_drop]
   congr 1
   omega
  ·rw [List.length_map,List.length_map,List.length_take]
   omega
  ·intro k v hk
   rw [List.map_map,List.getElem?_map,List.getElem?_take] at hk
   split at hk
   ·rename_i hkn
    have hkz:k < zs.length:=by omega
    rw [List.getElem?_eq_getElem hkz] at hk
    have hcl:=hcell k hkz
    refine ⟨x,rfl,by have:=World.block_lt_of_cell? W _ hcl;rwa [Zk] at this,?_⟩
    have hw:=Zst (hwz zs[k] (List.getElem_mem hkz))
    have hv':v=byteV (UInt8.ofNat zs[k].toNat):=by
     simp only [Option.map_some,Function.comp,Option.some.injEq] at hk
     exact hk.symm
    rw [hcl,hv',byteV,hw,List.getD_eq_getElem?_getD,List.getElem?_eq_getElem hkz]
    rfl
   ·cases hk
theorem Zi1 {m:Nat} {a:Value} {x:DataW H×List MemPlace} (h:DataW.trod enc Tryz.prog W 0 (fun _=>true) true m 36 [a]=some x) {A:Option Addr} {n c:Nat} (ha:a=.slice A n c):n=0∨∃ k,n≤k∧k*24∈x.1.weights Tryz.prog 36:=by
 subst ha
 rcases DataW.trod_slice Tryz.underlying36 h with ⟨hcs,_⟩ | ⟨ad,len,cap,elems,rest,k,_,hcs,hxd,_,hl,hmx,hlen,hel,_⟩
 ·simp at hcs
  exact .inl hcs.2.1
 ·simp at hcs
  obtain ⟨_,rfl,rfl⟩:=hcs
  refine .inr ⟨elems.length+rest.length,by omega,?_⟩
  rw [hxd]
  simp only [DataW.weights,Tryz.underlying36]
  refine List.mem_cons.2 (.inl ?_)
  rw [show Tryz.prog.bytesOf 140=24 by kernel_rfl]
  simp only [List.length_map]
theorem Zov {v:Value} {d:DataW H} {p:List MemPlace} (hv:Value.okWide Tryz.prog W r base 22 v) (h:DataW.Trod enc Tryz.prog W 0 (fun _=>true) true 22 v d p) {ts:List TypeId} {ds:List (DataW H)} (hsz:(DataW.weightsEach Tryz.prog ts ds).all (·≤reachBytes)=true) {j:Nat}
 (hj:ts[j]?=some 22) (hd:ds[j]?=some d) :
 ∃ A n c os,v=.slice A n c∧Ops15 W A n c os:=by
 obtain ⟨A,n,c,rfl⟩:=okWide_slice Tryz.underlying22 hv
 obtain ⟨fuel,hf⟩:=h
 have ce:Tryz.prog.cellsOf 43=13:=by kernel_rfl
 have c_rec:Tryz.prog.cellsOf 39=7:=by kernel_rfl
 have c_int:Tryz.prog.cellsOf 3=1:=by kernel_rfl
 have c_int64:Tryz.prog.cellsOf 2=1:=by kernel_rfl
 have c_string:Tryz.prog.cellsOf 9=1:=by kernel_rfl
 have c_sloc:Tryz.prog.cellsOf 36=1:=by kernel_rfl
 have c_su8:Tryz.prog.cellsOf 37=1:=by kernel_rfl
 have c_sint:Tryz.prog.cellsOf 40=1:=by kernel_rfl
 have c_uint32:Tryz.prog.cellsOf 41=1:=by kernel_rfl
 rcases DataW.trod_slice Tryz.underlying22 hf with ⟨hcs,_⟩ | ⟨ad,len,cap,elems,rest,k,_,hcs,hxd,_,hl,hmx,hlen,hel,_⟩
 ·simp [Value.cells] at hcs
  obtain ⟨rfl,rfl,rfl⟩:=hcs
  exact ⟨none,0,0,[],rfl,⟨rfl,Nat.le_refl _,by omega,fun i hi=>absurd hi (Nat.not_lt_zero i)⟩⟩
 ·simp [Value.cells] at hcs
  obtain ⟨rfl,rfl,rfl⟩:=hcs
  have hdd:d=.slice (elems.map (·.1)) (rest.map (·.1)):=by
   simp only [Prod.mk.injEq] at hxd
   exact hxd.1
  have wt:∀ z∈d.weights Tryz.prog 22,z≤140737488351232:=fun z hz=>by
   have:=List.all_eq_true.1 hsz _ (DataW.weights_mem_each hj hd _ hz)
   have h2:z≤reachBytes:=by simpa using this
   unfold reachBytes at h2
   omega
  have wtop:n≤140737488351232:=by
   have:=wt ((elems.length+rest.length)*176) (by
    rw [hdd]
    simp only [DataW.weights,Tryz.underlying22]
    refine List.mem_cons.2 (.inl ?_)
    rw [show Tryz.prog.bytesOf 43=176 by kernel_rfl]
    simp only [List.length_map])
   omega
  have wts:∀ (i:Nat) e,elems[i]?=some e→∀ z∈e.1.weights Tryz.prog 43,z≤140737488351232:=fun i e he z hz=>wt z (by
   rw [hdd]
   simp only [DataW.weights,Tryz.underlying22]
   exact List.mem_cons_of_mem _ (List.mem_append_left _ (Zgl (List.mem_map.2 ⟨e,List.mem_of_getElem? he,rfl⟩) hz)))
  have each:∀ i,i < n→∃ q:O15×P15,O15At W q.1 q.2∧∀ k,k < 13→W.cell? ((ad.add (i*13)).add k)=(o15V q.1 q.2)[k]?:=by
   intro i hi
   have h1:=hel i hi
   have hei:elems[i]?=some elems[i]:=List.getElem?_eq_getElem (by omega)
   have wti:=wts i _ hei
   rw [ce,hei] at h1
   obtain ⟨cs',h2,h3⟩:=Option.bind_eq_some_iff.1 h1
   obtain ⟨_,hlen',hcell⟩:=World.cells?_some h2
   obtain ⟨ys,k',_,hxa,_,hyl,hf⟩:=DataW.trod_struct Tryz.underlying43 h3
   rw [hxa] at wti
   match ys,hyl,cs',hlen',wti with
   | [y0,y1,y2,y3,y4,y5,y6],_,[v0,v1,v2,v3,v4,v5,v6,v7,v8,v9,v10,v11,v12],_,wti =>
     have wti:∀ z∈y0.1.weights Tryz.prog 3++(y1.1.weights Tryz.prog 39++(y2.1.weights Tryz.prog 3++(y3.1.weights Tryz.prog 3++(y4.1.weights Tryz.prog 40++(y5.1.weights Tryz.prog 40++(y6.1.weights Tryz.prog 41++[])))))),z≤140737488351232:=fun z hz=>wti z (by
      simp only [DataW.weights,Tryz.underlying43,List.map_cons,List.map_nil,DataW.weightsEach]
      exact hz)
     have g0:DataW.trod enc Tryz.prog W 0 (fun _=>true) true k' 3 [v0]=some y0:=by
      have h:=hf 0 { name := "What", type:=3,offset:=0,embedded:=false,tag := "", pkgPath := "", byteOffset:=0 } rfl
      dsimp only at h
      rw [c_int] at h
      exact h
     have g1:DataW.trod enc Tryz.prog W 0 (fun _=>true) true k' 39 [v1,v2,v3,v4,v5,v6,v7]=some y1:=by
      have h:=hf 1 { name := "X", type:=39,offset:=1,embedded:=false,tag := "", pkgPath := "", byteOffset:=8 } rfl
      dsimp only at h
      rw [c_rec] at h
      exact h
     have g2:DataW.trod enc Tryz.prog W 0 (fun _=>true) true k' 3 [v8]=some y2:=by
      have h:=hf 2 { name := "N", type:=3,offset:=8,embedded:=false,tag := "", pkgPath := "", byteOffset:=104 } rfl
      dsimp only at h
      rw [c_int] at h
      exact h
     have g3:DataW.trod enc Tryz.prog W 0 (fun _=>true) true k' 3 [v9]=some y3:=by
      have h:=hf 3 { name := "At", type:=3,offset:=9,embedded:=false,tag := "", pkgPath := "", byteOffset:=112 } rfl
      dsimp only at h
      rw [c_int] at h
      exact h
     have g4:DataW.trod enc Tryz.prog W 0 (fun _=>true) true k' 40 [v10]=some y4:=by
      have h:=hf 4 { name := "Segs", type:=40,offset:=10,embedded:=false,tag := "", pkgPath := "", byteOffset:=120 } rfl
      dsimp only at h
      rw [c_sint] at h
      exact h
     have g5:DataW.trod enc Tryz.prog W 0 (fun _=>true) true k' 40 [v11]=some y5:=by
      have h:=hf 5 { name := "Bytes", type:=40,offset:=11,embedded:=false,tag := "", pkgPath := "", byteOffset:=144 } rfl
      dsimp only at h
      rw [c_sint] at h
      exact h
     have g6:DataW.trod enc Tryz.prog W 0 (fun _=>true) true k' 41 [v12]=some y6:=by
      have h:=hf 6 { name := "Bits", type:=41,offset:=12,embedded:=false,tag := "", pkgPath := "", byteOffset:=168 } rfl
      dsimp only at h
      rw [c_uint32] at h
      exact h
     obtain ⟨ws,k2,_,hwa,_,hwl,hg⟩:=DataW.trod_struct Tryz.underlying39 g1
     match ws,hwl,hwa with
     | [u0,u1,u2,u3,u4,u5,u6],_,hwa =>
       have wtm:∀ z∈u0.1.weights Tryz.prog 3++(u1.1.weights Tryz.prog 9++(u2.1.weights Tryz.prog 2++(u3.1.weights Tryz.prog 3++(u4.1.weights Tryz.prog 3++(u5.1.weights Tryz.prog 36++(u6.1.weights Tryz.prog 37++[])))))),z≤140737488351232:=fun z hz=>wti z (List.mem_append_right _ (List.mem_append_left _ (by
        rw [hwa]
        simp only [DataW.weights,Tryz.underlying39,List.map_cons,List.map_nil,DataW.weightsEach]
        exact hz)))
       have j0:DataW.trod enc Tryz.prog W 0 (fun _=>true) true k2 3 [v1]=some u0:=by
        have h:=hg 0 { name := "Kind", type:=3,offset:=0,embedded:=false,tag := "", pkgPath := "", byteOffset:=0 } rfl
        dsimp only at h
        rw [c_int] at h
        exact h
       have j1:DataW.trod enc Tryz.prog W 0 (fun _=>true) true k2 9 [v2]=some u1:=by
        have h:=hg 1 { name := "Key", type:=9,offset:=1,embedded:=false,tag := "", pkgPath := "", byteOffset:=8 } rfl
        dsimp only at h
        rw [c_string] at h
        exact h
       have j2:DataW.trod enc Tryz.prog W 0 (fun _=>true) true k2 2 [v3]=some u2:=by
        have h:=hg 2 { name := "Id", type:=2,offset:=2,embedded:=false,tag := "", pkgPath := "", byteOffset:=24 } rfl
        dsimp only at h
        rw [c_int64] at h
        exact h
       have j3:DataW.trod enc Tryz.prog W 0 (fun _=>true) true k2 3 [v4]=some u3:=by
        have h:=hg 3 { name := "No", type:=3,offset:=3,embedded:=false,tag := "", pkgPath := "", byteOffset:=32 } rfl
        dsimp only at h
        rw [c_int] at h
        exact h
       have j4:DataW.trod enc Tryz.prog W 0 (fun _=>true) true k2 3 [v5]=some u4:=by
        have h:=hg 4 { name := "Size", type:=3,offset:=4,embedded:=false,tag := "", pkgPath := "", byteOffset:=40 } rfl
        dsimp only at h
        rw [c_int] at h
        exact h
       have j5:DataW.trod enc Tryz.prog W 0 (fun _=>true) true k2 36 [v6]=some u5:=by
        have h:=hg 5 { name := "Locs", type:=36,offset:=5,embedded:=false,tag := "", pkgPath := "", byteOffset:=48 } rfl
        dsimp only at h
        rw [c_sloc] at h
        exact h
       have j6:DataW.trod enc Tryz.prog W 0 (fun _=>true) true k2 37 [v7]=some u6:=by
        have h:=hg 6 { name := "B", type:=37,offset:=6,embedded:=false,tag := "", pkgPath := "", byteOffset:=72 } rfl
        dsimp only at h
        rw [c_su8] at h
        exact h
       obtain ⟨z0,e0,_,b0⟩:=DataW.trod_int Tryz.underlying3 g0
       obtain ⟨z2,e2,_⟩:=DataW.trod_int Tryz.underlying3 j0
       obtain ⟨z3,e3,hw3,_⟩:=DataW.trod_string Tryz.underlying9 j1
       obtain ⟨z4,e4,_⟩:=DataW.trod_int Tryz.underlying2 j2
       obtain ⟨z5,e5,_⟩:=DataW.trod_int Tryz.underlying3 j3
       obtain ⟨z6,e6,_⟩:=DataW.trod_int Tryz.underlying3 j4
       obtain ⟨LA,ln,lc,ls,e7,hL⟩:=Zr9 j5
       have hLw:=Zi1 j5 e7
       obtain ⟨BA,bn,bc,bs,e8,hB,hBw⟩:=Zsc j6
       obtain ⟨z1,e1,_,b1⟩:=DataW.trod_int Tryz.underlying3 g2
       obtain ⟨z9,e9,_,b9⟩:=DataW.trod_int Tryz.underlying3 g3
       obtain ⟨SA,sn,sc,ss,e12,hS,hSw,hSb⟩:=Zkk g4
       obtain ⟨IA,im,ic,is,e10,hI,hIw,hIb⟩:=Zkk g5
       obtain ⟨z11,e11,_,b11⟩:=DataW.trod_int Tryz.underlying41 g6
       have c0:=hcell 0 (by omega)
       have c1:=hcell 1 (by omega)
       have c2:=hcell 2 (by omega)
       have c3:=hcell 3 (by omega)
       have c4:=hcell 4 (by omega)
       have c5:=hcell 5 (by omega)
       have c6:=hcell 6 (by omega)
       have c7:=hcell 7 (by omega)
       have c8:=hcell 8 (by omega)
       have c9:=hcell 9 (by omega)
       have c10:=hcell 10 (by omega)
       have c11:=hcell 11 (by omega)
       have c12:=hcell 12 (by omega)
       simp at c0 c1 c2 c3 c4 c5 c6 c7 c8 c9 c10 c11 c12 e0 e1 e2 e3 e4 e5 e6 e9 e11
       subst e0 e1 e2 e3 e4 e5 e6 e7 e8 e9 e10 e11 e12
       refine ⟨(⟨z0,⟨z2,z3.data.toList,z4,z5,z6,ls,bs⟩,z1,z9,ss,is,z11⟩,⟨LA,ln,lc,BA,bn,bc,SA,sn,sc,IA,im,ic⟩),⟨bounds_i64 b0,bounds_i64 b1,⟨hL,hB⟩,bounds_i64 b9,hS,hSb,hI,hIb,bounds_u32 b11,⟨?_,?_,?_,?_,?_⟩⟩,fun k hk=>?_⟩
       ·show z3.data.toList.length≤_
        refine wtm _ (List.mem_append_right _ (List.mem_append_left _ ?_))
        rw [hw3]
        simp only [DataW.weights,List.mem_singleton]
       ·have hlen:=hL.len
        show ls.length≤_
        rcases hLw with h | ⟨q,hq,h⟩
        ·omega
        ·have:=wtm _ (List.mem_append_right _ (List.mem_append_right _ (List.mem_append_right _ (List.mem_append_right _ (List.mem_append_right _ (List.mem_append_left _ h))))))
         omega
       ·have hlen:=hB.len
        have hcap:=hB.cap
        show bs.length≤_
        rcases hBw with h | h
        ·omega
        ·have:=wtm _ (List.mem_append_right _ (List.mem_append_right _ (List.mem_append_right _ (List.mem_append_right _ (List.mem_append_right _ (List.mem_append_right _ (List.mem_append_left _ h)))))))
         omega
       ·have hlen:=hI.len
        have hcap:=hI.cap
        show is.length≤_
        rcases hIw with h | h
        ·omega
        ·have:=wti _ (List.mem_append_right _ (List.mem_append_right _ (List.mem_append_right _ (List.mem_append_right _ (List.mem_append_right _ (List.mem_append_left _ h))))))
         omega
       ·have hlen:=hS.len
        have hcap:=hS.cap
        show ss.length≤_
        rcases hSw with h | h
        ·omega
        ·have:=wti _ (List.mem_append_right _ (List.mem_append_right _ (List.mem_append_right _ (List.mem_append_right _ (List.mem_append_left _ h)))))
         omega
       ·match k,hk with
        | 0,_=>exact c0
        | 1,_=>exact c1
        | 2,_=>exact c2
        | 3,_=>exact c3
        | 4,_=>exact c4
        | 5,_=>exact c5
        | 6,_=>exact c6
        | 7,_=>exact c7
        | 8,_=>exact c8
        | 9,_=>exact c9
        | 10,_=>exact c10
        | 11,_=>exact c11
        | 12,_=>exact c12
  obtain ⟨f,hf⟩:=Go.Deep.choose_lt each
  refine ⟨some ad,n,c,(List.range n).map fun i=>(f i).1,rfl,⟨by simp,hl,wtop,fun i hi=>?_⟩⟩
  obtain ⟨h1,h2⟩:=hf i hi
  refine ⟨ad,(f i).1,(f i).2,rfl,?_,by rw [List.getElem?_map,List.getElem?_range hi];rfl,h1,h2⟩
  have:=World.block_lt_of_cell? W _ (h2 0 (by omega):_=some (Value.int .i64 (f i).1.what))
  rwa [Zk,Zk] at this
end
end Go.Proofs.YtkelafkbmnjpeaaGreat
