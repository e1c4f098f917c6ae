import Derived.Test.YtkelafkbmnjpeaaGreatMG18
import Derived.Test.YtkelafkbmnjpeaaGreatMG20
import Derived.Test.YtkelafkbmnjpeaaGreatAll
set_option linter.unusedSimpArgs false
set_option linter.unusedVariables false
set_option maxHeartbeats 8000000
set_option maxRecDepth 100000
namespace Go.Proofs.YtkelafkbmnjpeaaGreat
open Go.Lib (hid)
open Go.RowKit Go.Shelf
attribute [local go_sem] Oper.semAt_some
structure SgHas (n₀ m:Nat) (b s bad:Nat) (w:World) (pre:List Rx) (W:World):Prop where
 list:∃ A c,Boxed W b 141 (.slice A (fnsR pre).length c)∧W.ownsRow m 145 9 (.slice A (fnsR pre).length c) (fnsR pre).length ((fnsR pre).flatMap fnE)
 recs:∀ p∈fnsR pre,RcOwn W m p.2.1.1 p.2.1.2.1 p.2.1.2.2 p.2.2.1 p.2.2.2.1 p.2.2.2.2 p.1.2.2
 bad:Boxed W s 3 (.int .i64 ((bad+badR pre:Nat):Int))
 low:Below n₀ w W
theorem SgHas.stay {n₀ m b s bad B:Nat} {w X Y:World} {pre:List Rx} (hB:n₀≤B) (hw:n₀≤w.heap.size) (h:SgHas n₀ m b s bad w pre X) (hc:Zj B X Y):SgHas n₀ m b s bad w pre Y:=by
 obtain ⟨⟨A,c,h1,h2⟩,h3,h4,h5⟩:=h
 exact ⟨⟨A,c,hc.boxed h1,hc.owned h2⟩,fun p hp=>⟨hc.owned (h3 p hp).locs,(h3 p hp).len,hc.owned (h3 p hp).b⟩,hc.boxed h4,h5.trans (hc.under hB (Nat.le_trans hw h5.size))⟩
theorem Zpm {n₀ b bad k fc:Nat} {V W0 Wb w:World} {pre:List Rx} {x:Rx} {FA:Option Addr} {bz:Int} (hsb:n₀ < b) (hV:V.heap.size=b+1+1) (lb:Boxed Wb b 141 (.slice FA k fc)) (lown:Wb.ownsRow V.heap.size 145 9 (.slice FA k fc) k ((fnsR pre).flatMap fnE))
 (lrec:∀ p∈fnsR pre,RcOwn Wb V.heap.size p.2.1.1 p.2.1.2.1 p.2.1.2.2 p.2.2.1 p.2.2.2.1 p.2.2.2.2 p.1.2.2) (lbad:Boxed Wb n₀ 3 (.int .i64 bz)) (llow:Below n₀ w Wb) (hw:n₀≤w.heap.size) (hk:(fnsR pre).length=k) (hs:fnsR (pre++[x])=fnsR pre) (hb:badR (pre++[x])=badR pre+1) (hbz:((bad+badR pre:Nat):Int)=bz) :
 Zc (Mine n₀ (b+1) V.heap.size W0) Wb (Wb.setCell ⟨n₀,0,none⟩ (.int .i64 (bz+1)))∧SgHas n₀ V.heap.size b n₀ bad w (pre++[x]) (Wb.setCell ⟨n₀,0,none⟩ (.int .i64 (bz+1))):=by
 have hsp:Zc (fun k=>k=n₀) Wb (Wb.setCell ⟨n₀,0,none⟩ (.int .i64 (bz+1))):=(Zc.refl (fun k=>k=n₀) Wb).setCell (p:=⟨n₀,0,none⟩) rfl _
 have own1:∀ {e size:Nat} {v:Value} {n:Nat} {ys:List Value},Wb.ownsRow V.heap.size e size v n ys→(Wb.setCell ⟨n₀,0,none⟩ (.int .i64 (bz+1))).ownsRow V.heap.size e size v n ys:=fun h=>ownsRow_setCell_below h (by dsimp only;omega) _
 refine ⟨hsp.wider fun k _ hk=>.inl (by omega),⟨FA,fc,?_,?_⟩,?_,?_,?_⟩
 ·rw [hs,hk];exact (hsp.same _ lb.lt (by omega)).trans lb
 ·rw [hs,hk];exact own1 lown
 ·rw [hs];exact fun p hp=>⟨own1 (lrec p hp).locs,(lrec p hp).len,own1 (lrec p hp).b⟩
 ·rw [hb,show ((bad+(badR pre+1):Nat):Int)=bz+1 by omega]
  exact Whole.put (show Whole Wb n₀ _ #[_] from lbad) 0 _
 ·exact llow.trans (hsp.below (Nat.le_trans hw llow.size) fun k hk e=>by omega)
theorem Zpn {n₀ b bad k fc cap1:Nat} {V W0 Wb w w5:World} {pre:List Rx} {x:Rx} {p:Fn×Fh} {FA A1:Option Addr} {obj:Obj} (hsb:n₀ < b) (hV:V.heap.size=b+1+1) (hVW:V.heap.size≤Wb.heap.size) (hmi:∀ g,(Value.slice FA k fc).ownBlock=some g→V.heap.size≤g∧Mine n₀ (b+1) V.heap.size W0 g)
 (lown:Wb.ownsRow V.heap.size 145 9 (.slice FA k fc) k ((fnsR pre).flatMap fnE))
 (lrec:∀ p∈fnsR pre,RcOwn Wb V.heap.size p.2.1.1 p.2.1.2.1 p.2.1.2.2 p.2.2.1 p.2.2.2.1 p.2.2.2.2 p.1.2.2) (lbad:Boxed Wb n₀ 3 (.int .i64 ((bad+badR pre:Nat):Int))) (llow:Below n₀ w Wb) (hw:n₀≤w.heap.size) (hk:(fnsR pre).length=k) (hs:fnsR (pre++[x])=fnsR pre++[p]) (hb:badR (pre++[x])=badR pre)
 (hp:RcOwn Wb V.heap.size p.2.1.1 p.2.1.2.1 p.2.1.2.2 p.2.2.1 p.2.2.2.1 p.2.2.2.2 p.1.2.2) (y4:Boxed w5 b 141 (.slice FA k fc)) (hown1:w5.ownsRow V.heap.size 145 9 (.slice A1 (k+1) cap1) (k+1) ((fnsR pre).flatMap fnE++fnE p)) (hgrow1:(Wb.alloc obj).grownBy w5 (Value.slice FA k fc).ownBlock) :
 Zc (Mine n₀ (b+1) V.heap.size W0) Wb (w5.setCell ⟨b,0,none⟩ (.slice A1 (k+1) cap1))∧SgHas n₀ V.heap.size b n₀ bad w (pre++[x]) (w5.setCell ⟨b,0,none⟩ (.slice A1 (k+1) cap1)):=by
 have hsp5:Zc (fun k=>k=b) w5 (w5.setCell ⟨b,0,none⟩ (.slice A1 (k+1) cap1)):=(Zc.refl (fun k=>k=b) w5).setCell (p:=⟨b,0,none⟩) rfl _
 have own1:∀ {e size:Nat} {v:Value} {n:Nat} {ys:List Value},Wb.ownsRow V.heap.size e size v n ys→e≠145→(w5.setCell ⟨b,0,none⟩ (.slice A1 (k+1) cap1)).ownsRow V.heap.size e size v n ys:=fun h hne =>
  ownsRow_setCell_below ((h.alloc obj).kept hgrow1 (Zjr (h.alloc obj) (lown.alloc obj) hne)) (by dsimp only;omega) _
 have hspY:Zc (Mine n₀ (b+1) V.heap.size W0) Wb (w5.setCell ⟨b,0,none⟩ (.slice A1 (k+1) cap1)) :=
  ((Zc.grows (Zb Wb obj)).grown hgrow1 (fun g hg=>(hmi g hg).2)).trans (hsp5.wider fun k _ hk=>.inl (by omega))
 have keep:∀ {q:Nat} {t:TypeId} {v:Value},Boxed Wb q t v→q < V.heap.size→q≠b→Boxed (w5.setCell ⟨b,0,none⟩ (.slice A1 (k+1) cap1)) q t v:=fun h h1 h2 =>
  (hsp5.same _ (by have:=hgrow1.size;rw [World.size_alloc] at this;have:=h.lt;omega) h2).trans ((hgrow1.block _ (by rw [World.size_alloc];have:=h.lt;omega) fun e=>by have:=(hmi _ e.symm).1;omega).trans (((Zb Wb obj).block _ h.lt).trans h))
 refine ⟨hspY,⟨A1,cap1,?_,?_⟩,fun q hq=>?_,?_,?_⟩
 ·rw [hs,List.length_append,hk]
  exact Whole.put (show Whole w5 b _ #[_] from y4) 0 _
 ·rw [hs,List.length_append,hk,List.flatMap_append]
  have:[p].flatMap fnE=fnE p:=by simp
  rw [this]
  exact ownsRow_setCell_below hown1 (by dsimp only;omega) _
 ·rw [hs] at hq
  have hq':RcOwn Wb V.heap.size q.2.1.1 q.2.1.2.1 q.2.1.2.2 q.2.2.1 q.2.2.2.1 q.2.2.2.2 q.1.2.2:=by
   rcases List.mem_append.1 hq with h | h
   ·exact lrec q h
   ·rw [List.mem_singleton.1 h];exact hp
  exact ⟨own1 hq'.locs (by decide),hq'.len,own1 hq'.b (by decide)⟩
 ·rw [hb]
  exact keep lbad (by omega) (by omega)
 ·refine llow.trans (hspY.below (Nat.le_trans hw llow.size) fun q hq h=>?_)
  rcases h with h | h
  ·omega
  ·have:=h.1;omega
def Yv (m:Dk) (n:Int):List Fn×Int×Int :=
 if (m.read (nmS n) 0 (m.size (nmS n)).1).2=0 then
  (if Zia (allB ((m.read (nmS n) 0 (m.size (nmS n)).1).1.getD []) 0).1 n=true then
    (fnsP ((allB ((m.read (nmS n) 0 (m.size (nmS n)).1).1.getD []) 0).1.drop 1),(((allB ((m.read (nmS n) 0 (m.size (nmS n)).1).1.getD []) 0).2.1+badP ((allB ((m.read (nmS n) 0 (m.size (nmS n)).1).1.getD []) 0).1.drop 1):Nat):Int),0)
   else ([],0,22))
 else ([],0,(m.read (nmS n) 0 (m.size (nmS n)).1).2)
theorem Zl8 (l:List Rx):(fnsR l).length≤l.length:=by unfold fnsR;rw [List.length_map];exact List.length_filter_le _ _
theorem Zl9 (l:List Rx):badR l≤l.length:=List.length_filter_le _ _
theorem Zjh {bs y:List UInt8} {k e:Nat} (h:Zi bs=(y,k,e)):y.length≤bs.length:=by
 have h1:(Zi bs).1.length≤bs.length:=by
  unfold Zi
  repeat' split
  all_goals (try simp only [List.length_nil,List.length_take,List.length_drop]) <;> omega
 rw [h] at h1
 exact h1
theorem all_bodies:∀ (N:Nat) (bs:List UInt8) (a:Nat),bs.length≤N→∀ t∈(allB bs a).1,t.2.2.length≤bs.length
 | 0,bs,a,hN,t,ht=>by
   have hb:bs=[]:=List.eq_nil_of_length_eq_zero (by omega)
   subst hb
   simp [Zad] at ht
 | N+1,bs,a,hN,t,ht=>by
   by_cases hb:bs=[]
   ·subst hb
    simp [Zad] at ht
   obtain ⟨⟨y,k,e⟩,h⟩:∃ r,Zi bs=r:=⟨_,rfl⟩
   obtain ⟨hk,hk0,_⟩:=Yq h
   have hpos:0 < bs.length:=List.length_pos_iff.2 hb
   by_cases he:e=0
   ·subst he
    have hk0:=hk0 rfl
    rw [Zc2 hb h] at ht
    rcases List.mem_cons.1 ht with rfl | ht
    ·exact Zjh h
    ·have:=all_bodies N (bs.drop k) (a+k) (by rw [List.length_drop];omega) t ht
     rw [List.length_drop] at this
     omega
   ·by_cases hz:k=0
    ·subst hz
     rw [Zbs hb h he] at ht
     cases ht
    ·rw [Zc3 hb h he hz] at ht
     have:=all_bodies N (bs.drop k) (a+k) (by rw [List.length_drop];omega) t ht
     rw [List.length_drop] at this
     omega
theorem Znh {ts:List It} {n:Int} (h:Zia ts n=true):1≤ts.length:=by
 cases ts with
 | nil=>cases h
 | cons t ts=>simp
section
variable {B d K:Nat} {w0 w:World} {out:Nat→Prop} {m:Dk}
theorem Zni (w:World) (n:Int) (hn:-9223372036854775808≤n∧n≤9223372036854775807) (h:DkIn B w0 w d out m) (ok:DkOk K m) (hK:K≤1000000) :
 Calls Tryz.prog 92 #[.pointer (some ⟨d,0,none⟩),.int .i64 n] w fun e w'=>∃ A c l,e=.returned (.tuple #[.slice A l.length c,.int .i64 (Yv m n).2.1,.int .i64 (Yv m n).2.2])∧FnOwn w.heap.size w' A l.length c l∧l.map (·.1)=(Yv m n).1∧Grows w w':=by
 have HO:=hid (fun w'=>Zby w' d n)
 obtain ⟨⟨sv,sb⟩,hsz⟩:∃ q,m.size (nmS n)=q:=⟨_,rfl⟩
 have HSZ:=hid (fun w' (hg:Grows w w')=>Zco w' n (h.grow hg) hsz)
 have HBG:=hid (fun w' {A:Option Addr} {k c:Nat} {ts:List It} (hI:Items w' A k c ts)=>Znr w' d n hn hI)
 unfold Yv
 rw [hsz]
 dsimp only
 have hsv:0≤sv∧sv≤1000000:=by
  obtain ⟨own,G,h1,_⟩:=h
  unfold Dk.size at hsz
  cases hf:Dir.find (nmS n) m.names with
  | none=>rw [hf] at hsz;injection hsz with h2 _;omega
  | some f =>
    rw [hf] at hsz
    injection hsz with h2 _
    have:=(ok.bytes f (h1.find_lt (by have:=Yw n;unfold maxLen;omega) hf)).1
    omega
 obtain ⟨⟨rb,re⟩,hrd⟩:∃ q,m.read (nmS n) 0 sv=q:=⟨_,rfl⟩
 have hrlen:=fun h0=>Zda (m:=m) (n:=nmS n) (x:=0) (k:=sv) h0
 rw [hrd] at hrlen ⊢
 dsimp only at hrlen ⊢
 have hrr:=fun w' (hg:Grows w w')=>Zdb (nmS n) 0 sv (h.grow hg) ok (by omega) (by have:=Yw n;omega) (by omega) (by omega) hrd
 obtain ⟨bs,hbs⟩:∃ q,rb.getD []=q:=⟨_,rfl⟩
 unfold GotTo at hrr
 dsimp only at hrr
 rw [hbs] at hrr ⊢
 unfold segV at HO HSZ HBG
 obtain ⟨s,hs⟩:∃ s:ByteArray,(⟨(nmS n).toArray⟩:ByteArray)=s:=⟨_,rfl⟩
 rw [hs] at HO HSZ hrr HBG
 have HRR:=hid hrr
 have hbl:re=0→bs.length≤1000000:=fun h0=>by
  obtain ⟨b,e,hl⟩:=hrlen h0
  rw [←hbs,e]
  show b.length≤1000000
  omega
 clear h ok hK hsz hrd hrlen hrr hbs hs
 have hmix:Tryz.prog.follows .mixedOrders=true:=by kernel_rfl
 refine (callsIn_wide (n:=3)).1 ?_
 by_cases hre:re=0
 rotate_left 1
 ·have hzb:(re != 0)=true:=by rw [bne_iff_ne];exact hre
  rw [if_neg hre]
  clear hre hbl
  refine callsIn_of_wp_marks Tryz.func92 rfl trivial ?_ rfl
  simp only [Tryz.ntmps92,List.size_toArray,List.length_cons,List.length_nil,Nat.reduceAdd,Nat.reduceSub,Array.replicate_succ,Array.replicate_zero,List.push_toArray,List.append_toArray,List.nil_append,List.cons_append]
  gi_wp2_with (fail)
  refine ⟨trivial,(callsIn_wide.2 (HO.out w)).mono ?_⟩
  rintro e w1 ⟨rfl,hg1⟩
  gi_wp2_with (fail)
  have hwm:=Whole.made w1 176 #[.pointer (some ⟨d,0,none⟩),.int .i64 n,.string s]
  have HG1:=hid (Grows.trans hg1 (Zb w1 (.cells #[.pointer (some ⟨d,0,none⟩),.int .i64 n,.string s] 176)))
  have HWM:=hid hwm
  have HCC:=hid (show ∀ w',Grows (w1.alloc (.cells #[.pointer (some ⟨d,0,none⟩),.int .i64 n,.string s] 176)) w'→w'.cell? { block:=w1.heap.size,off:=0 }=some (.pointer (some ⟨d,0,none⟩))∧w'.cell? { block:=w1.heap.size,off:=1 }=some (.int .i64 n)∧w'.cell? { block:=w1.heap.size,off:=2 }=some (.string s) from fun w' hC=>by
   have hx:=hC.whole HWM.out
   exact ⟨hx.cell 0,hx.cell 1,hx.cell 2⟩)
  clear hg1 hwm
  refine wpIn_wide.2 ?_
  refine Zg (E:=Grows) [Za (.pointer (some ⟨w1.heap.size,0,none⟩)),Za (.pointer (some ⟨d,0,none⟩)),Za (.pointer (some ⟨w1.heap.size,2,none⟩)),Za (.string s),Za (.agg #[.pointer (some ⟨d,0,none⟩),.int .i64 n,.string s]),Za (.int .i64 sv),Jo (bs) (re),Jo (bs) (re),Jq (bs),Za (.int .i64 re),Jq (bs),Za (.int .i64 re)] (by kernel_rfl) (by kernel_rfl) (fun _ _ _=>Grows.trans) (Ze _) ?_
  refine f_val _ (by rfl) ?_ ?_
  ·intro w' hC;clear hC;go_simp
  simp only [Pu]
  refine f_val _ (by rfl) ?_ ?_
  ·intro w' hC;obtain ⟨z1,z2,z3⟩:=HCC.out w' hC;clear hC;go_simp
  simp only [Pu]
  refine f_val _ (by rfl) ?_ ?_
  ·intro w' hC;clear hC;go_simp
  simp only [Pu]
  iterate 2
   refine f_val _ (by rfl) ?_ ?_
   ·intro w' hC;obtain ⟨z1,z2,z3⟩:=HCC.out w' hC;clear hC;go_simp
   simp only [Pu]
  refine Zv 145 #[.agg #[.pointer (some ⟨d,0,none⟩),.int .i64 n,.string s]] (.int .i64 sv) (by rfl) (by intro w' hC;clear hC;go_simp) ?_ ?_
  ·intro w' hC hks;exact HSZ.out w' (Grows.trans HG1.out hC)
  simp only [Pu]
  refine f_got (bs) (re) 93 #[.pointer (some ⟨d,0,none⟩),.string s,.int .i64 0,.int .i64 sv] (by rfl) (by intro w' hC;clear hC;go_simp) ?_ ?_
  ·intro w' hC hks;exact HRR.out w' (Grows.trans HG1.out hC)
  intro Q1 p1
  simp only [Pu]
  refine Zjx (bs) (re) Q1 p1 (by rfl) ?_ ?_
  ·intro w' hC hks;refine ⟨?_,Known.get hks 0 rfl rfl⟩;clear hC hks;go_simp
  intro Q2 p2
  simp only [Pu]
  refine f_slv (bs) Q2 p2 (by rfl) ?_ ?_
  ·intro w' hC hks;refine ⟨?_,Known.get hks 0 rfl rfl⟩;clear hC hks;go_simp
  intro Q3 p3
  simp only [Pu]
  refine f_val _ (by rfl) ?_ ?_
  ·intro w' hC;clear hC;go_simp
  simp only [Pu]
  refine f_slv (bs) Q3 p3 (by rfl) ?_ ?_
  ·intro w' hC hks;refine ⟨?_,Known.get hks 0 rfl rfl⟩;clear hC hks;go_simp
  intro QA qc
  simp only [Pu]
  refine f_val _ (by rfl) ?_ ?_
  ·intro w' hC;clear hC;go_simp
  simp only [Pu]
  refine Zs ?_
  intro w2 hC hks
  have HCw2:=hid hC
  have HSQ:=hid (Known.at hks 0 rfl)
  clear hC hks
  gi_wp2_with (fail)
  refine ⟨.tuple #[.slice none 0 0,.int .i64 0,.int .i64 re],by simp [results,Tryz.results92,go_sem],none,0,[],rfl,FnOwn.nil _ _,rfl,Grows.trans HG1.out HCw2.out⟩
 subst hre
 rw [if_pos rfl]
 have HBL:=hid (hbl rfl)
 clear hbl
 obtain ⟨ts,hts⟩:∃ q,(allB bs 0).1=q:=⟨_,rfl⟩
 obtain ⟨bd,hbd⟩:∃ q,(allB bs 0).2.1=q:=⟨_,rfl⟩
 rw [hts,hbd]
 have HTS:=hid hts
 have HBD:=hid hbd
 clear hts hbd
 obtain ⟨be,hbe⟩:∃ q,Zia ts n=q:=⟨_,rfl⟩
 rw [hbe]
 have HBE:=hid hbe
 clear hbe
 cases be with
 | false =>
   rw [if_neg (by decide)]
   refine callsIn_of_wp_marks Tryz.func92 rfl trivial ?_ rfl
   simp only [Tryz.ntmps92,List.size_toArray,List.length_cons,List.length_nil,Nat.reduceAdd,Nat.reduceSub,Array.replicate_succ,Array.replicate_zero,List.push_toArray,List.append_toArray,List.nil_append,List.cons_append]
   gi_wp2_with (fail)
   refine ⟨trivial,(callsIn_wide.2 (HO.out w)).mono ?_⟩
   rintro e w1 ⟨rfl,hg1⟩
   gi_wp2_with (fail)
   have hwm:=Whole.made w1 176 #[.pointer (some ⟨d,0,none⟩),.int .i64 n,.string s]
   have HG1:=hid (Grows.trans hg1 (Zb w1 (.cells #[.pointer (some ⟨d,0,none⟩),.int .i64 n,.string s] 176)))
   have HWM:=hid hwm
   have HCC:=hid (show ∀ w',Grows (w1.alloc (.cells #[.pointer (some ⟨d,0,none⟩),.int .i64 n,.string s] 176)) w'→w'.cell? { block:=w1.heap.size,off:=0 }=some (.pointer (some ⟨d,0,none⟩))∧w'.cell? { block:=w1.heap.size,off:=1 }=some (.int .i64 n)∧w'.cell? { block:=w1.heap.size,off:=2 }=some (.string s) from fun w' hC=>by
    have hx:=hC.whole HWM.out
    exact ⟨hx.cell 0,hx.cell 1,hx.cell 2⟩)
   clear hg1 hwm
   refine wpIn_wide.2 ?_
   refine Zg (E:=Grows) [Za (.pointer (some ⟨w1.heap.size,0,none⟩)),Za (.pointer (some ⟨d,0,none⟩)),Za (.pointer (some ⟨w1.heap.size,2,none⟩)),Za (.string s),Za (.agg #[.pointer (some ⟨d,0,none⟩),.int .i64 n,.string s]),Za (.int .i64 sv),Jo (bs) (0),Jo (bs) (0),Jq (bs),Za (.int .i64 0),Jq (bs),Za (.int .i64 0)] (by kernel_rfl) (by kernel_rfl) (fun _ _ _=>Grows.trans) (Ze _) ?_
   refine f_val _ (by rfl) ?_ ?_
   ·intro w' hC;clear hC;go_simp
   simp only [Pu]
   refine f_val _ (by rfl) ?_ ?_
   ·intro w' hC;obtain ⟨z1,z2,z3⟩:=HCC.out w' hC;clear hC;go_simp
   simp only [Pu]
   refine f_val _ (by rfl) ?_ ?_
   ·intro w' hC;clear hC;go_simp
   simp only [Pu]
   iterate 2
    refine f_val _ (by rfl) ?_ ?_
    ·intro w' hC;obtain ⟨z1,z2,z3⟩:=HCC.out w' hC;clear hC;go_simp
    simp only [Pu]
   refine Zv 145 #[.agg #[.pointer (some ⟨d,0,none⟩),.int .i64 n,.string s]] (.int .i64 sv) (by rfl) (by intro w' hC;clear hC;go_simp) ?_ ?_
   ·intro w' hC hks;exact HSZ.out w' (Grows.trans HG1.out hC)
   simp only [Pu]
   refine f_got (bs) (0) 93 #[.pointer (some ⟨d,0,none⟩),.string s,.int .i64 0,.int .i64 sv] (by rfl) (by intro w' hC;clear hC;go_simp) ?_ ?_
   ·intro w' hC hks;exact HRR.out w' (Grows.trans HG1.out hC)
   intro Q1 p1
   simp only [Pu]
   refine Zjx (bs) (0) Q1 p1 (by rfl) ?_ ?_
   ·intro w' hC hks;refine ⟨?_,Known.get hks 0 rfl rfl⟩;clear hC hks;go_simp
   intro Q2 p2
   simp only [Pu]
   refine f_slv (bs) Q2 p2 (by rfl) ?_ ?_
   ·intro w' hC hks;refine ⟨?_,Known.get hks 0 rfl rfl⟩;clear hC hks;go_simp
   intro Q3 p3
   simp only [Pu]
   refine f_val _ (by rfl) ?_ ?_
   ·intro w' hC;clear hC;go_simp
   simp only [Pu]
   refine f_slv (bs) Q3 p3 (by rfl) ?_ ?_
   ·intro w' hC hks;refine ⟨?_,Known.get hks 0 rfl rfl⟩;clear hC hks;go_simp
   intro QA qc
   simp only [Pu]
   refine f_val _ (by rfl) ?_ ?_
   ·intro w' hC;clear hC;go_simp
   simp only [Pu]
   refine Zs ?_
   intro w2 hC hks
   have HCw2:=hid hC
   have HSQ:=hid (Known.at hks 0 rfl)
   clear hC hks
   gi_wp2_with (fail)
   refine ⟨trivial,(callsIn_wide.2 (Zp9 QA bs.length qc bs w2 HSQ.out HBL.out)).mono ?_⟩
   rintro e w3 ⟨IA,ic,ih,rfl,hown,hbod,hlow⟩
   have hit:=Zjq (c:=ic) rfl hown hbod
   have HG3:=hid (Grows.trans HG1.out (Grows.trans HCw2.out hlow))
   have hC3:=Grows.trans HCw2.out hlow
   have HC3:=hid hC3
   have HIT:=hid hit
   clear hown hbod hlow hit hC3
   rw [HTS.out] at HIT
   rw [HTS.out,HBD.out]
   obtain ⟨z0,z1,z2⟩:=HCC.out (w3.alloc (.cells #[.int .i64 (bd:Nat)] 3)) (Grows.trans HC3.out (Zb _ _))
   gi_wp2_with (fail)
   refine ⟨trivial,(callsIn_wide.2 (HBG.out _ (HIT.out.grow (Zb w3 (.cells #[.int .i64 (bd:Nat)] 3))))).mono ?_⟩
   rintro e w4 ⟨rfl,hg4⟩
   rw [HBE.out]
   have hm4:=hg4.whole (Whole.made w3 3 #[.int .i64 (bd:Nat)])
   have HG4:=hid (And.intro hg4 hm4)
   clear hg4 hm4 z0 z1 z2
   gi_wp2_with (fail)
   refine ⟨.tuple #[.slice none 0 0,.int .i64 0,.int .i64 22],by simp [results,Tryz.results92,go_sem],none,0,[],rfl,FnOwn.nil _ _,rfl,Grows.trans HG3.out (Grows.trans (Zb _ _) HG4.out.1)⟩
 | true =>
   rw [if_pos rfl]
   have HLE:=hid (Znh HBE.out)
   refine callsIn_of_wp_marks Tryz.func92 rfl trivial ?_ rfl
   simp only [Tryz.ntmps92,List.size_toArray,List.length_cons,List.length_nil,Nat.reduceAdd,Nat.reduceSub,Array.replicate_succ,Array.replicate_zero,List.push_toArray,List.append_toArray,List.nil_append,List.cons_append]
   gi_wp2_with (fail)
   refine ⟨trivial,(callsIn_wide.2 (HO.out w)).mono ?_⟩
   rintro e w1 ⟨rfl,hg1⟩
   gi_wp2_with (fail)
   have hwm:=Whole.made w1 176 #[.pointer (some ⟨d,0,none⟩),.int .i64 n,.string s]
   have HG1:=hid (Grows.trans hg1 (Zb w1 (.cells #[.pointer (some ⟨d,0,none⟩),.int .i64 n,.string s] 176)))
   have HWM:=hid hwm
   have HCC:=hid (show ∀ w',Grows (w1.alloc (.cells #[.pointer (some ⟨d,0,none⟩),.int .i64 n,.string s] 176)) w'→w'.cell? { block:=w1.heap.size,off:=0 }=some (.pointer (some ⟨d,0,none⟩))∧w'.cell? { block:=w1.heap.size,off:=1 }=some (.int .i64 n)∧w'.cell? { block:=w1.heap.size,off:=2 }=some (.string s) from fun w' hC=>by
    have hx:=hC.whole HWM.out
    exact ⟨hx.cell 0,hx.cell 1,hx.cell 2⟩)
   clear hg1 hwm
   refine wpIn_wide.2 ?_
   refine Zg (E:=Grows) [Za (.pointer (some ⟨w1.heap.size,0,none⟩)),Za (.pointer (some ⟨d,0,none⟩)),Za (.pointer (some ⟨w1.heap.size,2,none⟩)),Za (.string s),Za (.agg #[.pointer (some ⟨d,0,none⟩),.int .i64 n,.string s]),Za (.int .i64 sv),Jo (bs) (0),Jo (bs) (0),Jq (bs),Za (.int .i64 0),Jq (bs),Za (.int .i64 0)] (by kernel_rfl) (by kernel_rfl) (fun _ _ _=>Grows.trans) (Ze _) ?_
   refine f_val _ (by rfl) ?_ ?_
   ·intro w' hC;clear hC;go_simp
   simp only [Pu]
   refine f_val _ (by rfl) ?_ ?_
   ·intro w' hC;obtain ⟨z1,z2,z3⟩:=HCC.out w' hC;clear hC;go_simp
   simp only [Pu]
   refine f_val _ (by rfl) ?_ ?_
   ·intro w' hC;clear hC;go_simp
   simp only [Pu]
   iterate 2
    refine f_val _ (by rfl) ?_ ?_
    ·intro w' hC;obtain ⟨z1,z2,z3⟩:=HCC.out w' hC;clear hC;go_simp
    simp only [Pu]
   refine Zv 145 #[.agg #[.pointer (some ⟨d,0,none⟩),.int .i64 n,.string s]] (.int .i64 sv) (by rfl) (by intro w' hC;clear hC;go_simp) ?_ ?_
   ·intro w' hC hks;exact HSZ.out w' (Grows.trans HG1.out hC)
   simp only [Pu]
   refine f_got (bs) (0) 93 #[.pointer (some ⟨d,0,none⟩),.string s,.int .i64 0,.int .i64 sv] (by rfl) (by intro w' hC;clear hC;go_simp) ?_ ?_
   ·intro w' hC hks;exact HRR.out w' (Grows.trans HG1.out hC)
   intro Q1 p1
   simp only [Pu]
   refine Zjx (bs) (0) Q1 p1 (by rfl) ?_ ?_
   ·intro w' hC hks;refine ⟨?_,Known.get hks 0 rfl rfl⟩;clear hC hks;go_simp
   intro Q2 p2
   simp only [Pu]
   refine f_slv (bs) Q2 p2 (by rfl) ?_ ?_
   ·intro w' hC hks;refine ⟨?_,Known.get hks 0 rfl rfl⟩;clear hC hks;go_simp
   intro Q3 p3
   simp only [Pu]
   refine f_val _ (by rfl) ?_ ?_
   ·intro w' hC;clear hC;go_simp
   simp only [Pu]
   refine f_slv (bs) Q3 p3 (by rfl) ?_ ?_
   ·intro w' hC hks;refine ⟨?_,Known.get hks 0 rfl rfl⟩;clear hC hks;go_simp
   intro QA qc
   simp only [Pu]
   refine f_val _ (by rfl) ?_ ?_
   ·intro w' hC;clear hC;go_simp
   simp only [Pu]
   refine Zs ?_
   intro w2 hC hks
   have HCw2:=hid hC
   have HSQ:=hid (Known.at hks 0 rfl)
   clear hC hks
   gi_wp2_with (fail)
   refine ⟨trivial,(callsIn_wide.2 (Zp9 QA bs.length qc bs w2 HSQ.out HBL.out)).mono ?_⟩
   rintro e w3 ⟨IA,ic,ih,rfl,hown,hbod,hlow⟩
   have hit:=Zjq (c:=ic) rfl hown hbod
   have HG3:=hid (Grows.trans HG1.out (Grows.trans HCw2.out hlow))
   have hC3:=Grows.trans HCw2.out hlow
   have HC3:=hid hC3
   have HIT:=hid hit
   rw [HTS.out] at HIT hown hbod
   rw [HTS.out,HBD.out]
   obtain ⟨ig,icap,hiv,_,_⟩:=hown.form (by have:=HLE.out;omega)
   injection hiv with hiv1 _ hiv2
   subst hiv1 hiv2
   have HTL:=hid (Znl hown hbod rfl HLE.out)
   have HSM:=hid (show ∀ t∈ts.drop 1,t.2.2.length≤1000000 from fun t ht=>by
    have h1:=all_bodies _ bs 0 (Nat.le_refl _) t (by rw [HTS.out];exact List.mem_of_mem_drop ht)
    have:=HBL.out
    omega)
   have HFW:=hid (show ts.length≤200000 from by
    have h1:=(all_end _ bs 0 (Nat.le_refl _)).2.2.2.1
    rw [HTS.out] at h1
    have:=HBL.out
    omega)
   have HBDB:=hid (show bd≤1000000 from by
    have h1:=(all_end _ bs 0 (Nat.le_refl _)).2.2.1
    rw [HBD.out] at h1
    have:=HBL.out
    omega)
   have HDL:=hid (show (ts.drop 1).length=ts.length - 1 from List.length_drop)
   clear hown hbod hlow hit hC3
   obtain ⟨N,hN⟩:∃ N,ts.length=N:=⟨_,rfl⟩
   rw [hN] at HIT HTL HFW HDL
   rw [hN]
   have hN1:(1:Int)≤(N:Int):=by have:=HLE.out;omega
   have hN2:¬ ((N:Int) < 1):=by omega
   have hcap:(N:Int)≤(ic:Int):=by have:=HIT.out.cap;omega
   have HNE:=hid hN
   clear hN
   obtain ⟨z0,z1,z2⟩:=HCC.out (w3.alloc (.cells #[.int .i64 (bd:Nat)] 3)) (Grows.trans HC3.out (Zb _ _))
   gi_wp2_with (fail)
   refine ⟨trivial,(callsIn_wide.2 (HBG.out _ (HIT.out.grow (Zb w3 (.cells #[.int .i64 (bd:Nat)] 3))))).mono ?_⟩
   rintro e w4 ⟨rfl,hg4⟩
   rw [HBE.out]
   have hm4:=hg4.whole (Whole.made w3 3 #[.int .i64 (bd:Nat)])
   have HG4:=hid (And.intro hg4 hm4)
   clear hg4 hm4 z0 z1 z2
   by_cases hic:ic=1
   ·have HTB:=hid (show Items w3 (some ⟨ig,0,none⟩) (N - 1) 0 (ts.drop 1) from by
     have hN:N=1:=by omega
     have hnil:ts.drop 1=[]:=List.eq_nil_of_length_eq_zero (by rw [HDL.out];omega)
     rw [hnil,hN]
     exact ⟨rfl,Nat.le_refl _,fun e=>(by cases e),[],rfl,Row.nil _ _ _,fun i h t hh=>(by simp at hh)⟩)
    gi_wp2_with (fail)
    refine ⟨trivial,(callsIn_wide.2 (Zgw _ _ _ _)).mono ?_⟩
    rintro e V ⟨rfl,hV⟩
    obtain ⟨V1,hV1⟩:∃ V1,w4.alloc (.cells #[.slice none 0 0] 141)=V1:=⟨_,rfl⟩
    rw [hV1] at hV
    rw [hV1]
    have s1:V1.heap.size=w4.heap.size+1:=by rw [←hV1,World.size_alloc]
    have g1:Grows w4 V1:=hV1 ▸ Zb _ _
    have s2:V.heap.size=w4.heap.size+1+1:=by rw [←hV,World.size_alloc,s1]
    have g2:Grows V1 V:=hV ▸ Zb _ _
    have b1:Boxed V w4.heap.size 141 (.slice none 0 0):=by
     have h1:Boxed V1 w4.heap.size 141 (.slice none 0 0):=by rw [←hV1];exact Boxed.new _ _ _
     exact g2.whole h1
    have b2:Boxed V V1.heap.size 203 (.slice (some ⟨ig,0,none⟩) (N - 1) 0):=by rw [←hV];exact Boxed.new _ _ _
    have b3:Boxed V w3.heap.size 3 (.int .i64 (bd:Nat)):=(Grows.trans g1 g2).whole HG4.out.2
    have g34:=Grows.trans (Zb w3 (.cells #[.int .i64 (bd:Nat)] 3)) HG4.out.1
    have s3:w3.heap.size < w4.heap.size:=by have:=HG4.out.1.size;rw [World.size_alloc] at this;omega
    have g3V:=Grows.trans g34 (Grows.trans g1 g2)
    have hgives:=Zc6 2 V1.heap.size (some ⟨ig,0,none⟩) (N - 1) 0 (ts.drop 1) w3 V HTB.out (Lowly.grows g3V) b2 (by have:=HFW.out;omega) HSM.out
    have h0:SgHas w3.heap.size V.heap.size w4.heap.size w3.heap.size bd w3 [] V:=⟨⟨none,0,b1,World.ownsRow_nil _ _ _ _⟩,(fun p hp=>by cases hp),b3,g3V⟩
    have HGI:=hid hgives
    have H0:=hid h0
    have HS:=hid (And.intro s1 (And.intro s2 s3))
    rw [s1]
    rw [s1] at HGI
    clear hV hV1 g1 g2 b1 b2 b3 g34 g3V hgives h0 s1 s2 s3
    gi_wp2_with (fail)
    refine Zbm (gf:=229) (lb:=#[.pointer (some ⟨w4.heap.size+1,0,none⟩)]) rfl (enters_of Tryz.func229 (by kernel_rfl) rfl) HGI.out (fun _=>rfl)
     w3.heap.size (w4.heap.size+1) (by have:=HS.out;omega) (by rw [HS.out.2.1];omega) (fun k hk=>by rw [HS.out.2.1];have:=HS.out.2.2;omega) (SgHas w3.heap.size V.heap.size w4.heap.size w3.heap.size bd w3) (fun _ _=>False)
     (fun _ _ _ h hc=>h.stay (by rw [HS.out.2.1];have:=HS.out.2.2;omega) (Nat.le_refl _) hc) (fun _ _ _ h _=>h) H0.out ?round ?done (fun _ _ _ _ _ h _=>h.elim)
    case round =>
     rintro l pre ⟨⟨t1,t2,tb⟩,⟨LA,ln,lc⟩,⟨BA,bn,bc⟩⟩ W0 W hsz hi hg hgd
     simp only [Nat.reduceSub]
     dsimp only [Zmc]
     gi_wp2_with (fail)
     refine ⟨Zb _ _,fun Wb hcw=>?_⟩
     obtain ⟨hti,hro⟩:=hgd
     dsimp only at hti hro
     obtain ⟨ro,hroe⟩:∃ q,rcOf tb=q:=⟨_,rfl⟩
     rw [hroe] at hro hcw
     rw [hroe]
     have hpl:pre.length < 200000:=by
      have h1:=(List.getElem?_eq_some_iff.1 hti).1
      rw [HDL.out] at h1
      have:=HFW.out
      omega
     have ga:=Zb W (.cells #[.int .i64 (t1:Nat),.int .i64 (t2:Nat),.int .i64 ro.kind,.string ⟨ro.key.toArray⟩,.int .i64 ro.id,.int .i64 ro.no,.int .i64 ro.size,.slice LA ln lc,.slice BA bn bc] 145)
     have hbox:=hcw.held (World.alloc_heap_new W (.cells #[.int .i64 (t1:Nat),.int .i64 (t2:Nat),.int .i64 ro.kind,.string ⟨ro.key.toArray⟩,.int .i64 ro.id,.int .i64 ro.no,.int .i64 ro.size,.slice LA ln lc,.slice BA bn bc] 145))
     have hcW:Zj V.heap.size W0 Wb:=(Zj.grows (Grows.trans hg ga)).trans hcw
     have hrb:=(RcOwn.mk (hcw.owned (Zd hro.locs ga)) hro.len (hcw.owned (Zd hro.b ga))).from hsz
     obtain ⟨FA,fc,lb0,lown0⟩:=hi.list
     have HMI:=hid (Zc8 (n₀:=w3.heap.size) (m:=w4.heap.size+1) lown0)
     have lb:=hcW.boxed lb0
     have lown:=hcW.owned lown0
     have hi':=hi.stay (show w3.heap.size≤V.heap.size by rw [HS.out.2.1];have:=HS.out.2.2;omega) (Nat.le_refl _) hcW
     obtain ⟨-,lrec,lbad,llow⟩:=hi'
     have HVS:=hid (show V.heap.size≤Wb.heap.size from Nat.le_trans hsz (Nat.le_trans hg.size (Nat.le_trans ga.size hcw.size)))
     have hkl:=Zl8 pre
     have hbl:=Zl9 pre
     have hfs:=Zji pre ((t1,t2,tb),(LA,ln,lc),(BA,bn,bc))
     have hbs:=Zjj pre ((t1,t2,tb),(LA,ln,lc),(BA,bn,bc))
     dsimp only at hfs hbs
     rw [hroe] at hfs
     obtain ⟨k,hk⟩:∃ k,(fnsR pre).length=k:=⟨_,rfl⟩
     rw [hk] at lb lown hkl lb0 lown0 HMI
     obtain ⟨i0,hi0,hz0,hz1,hz2⟩:=info_parts infoFnd
     have HI:=hid (And.intro hi0 (And.intro hz0 (And.intro hz1 hz2)))
     have HP:=hid (And.intro lb (And.intro lown (And.intro lrec (And.intro lbad (And.intro llow hrb)))))
     have HK:=hid (And.intro hk (And.intro hkl (And.intro hbl hpl)))
     have HSN:=hid (And.intro hfs hbs)
     have c0:=cell_of_row Wb W.heap.size 0 _ _ _ hbox
     have c1:=cell_of_row Wb W.heap.size 1 _ _ _ hbox
     have c2:=cell_of_row Wb W.heap.size 2 _ _ _ hbox
     have c3:=cell_of_row Wb W.heap.size 3 _ _ _ hbox
     have c4:=cell_of_row Wb W.heap.size 4 _ _ _ hbox
     have c5:=cell_of_row Wb W.heap.size 5 _ _ _ hbox
     have c6:=cell_of_row Wb W.heap.size 6 _ _ _ hbox
     have c7:=cell_of_row Wb W.heap.size 7 _ _ _ hbox
     have c8:=cell_of_row Wb W.heap.size 8 _ _ _ hbox
     simp only [Gt] at c0 c1 c2 c3 c4 c5 c6 c7 c8
     have q0:=lb.cell
     have q1:=lb.frozen
     have r0:=lbad.cell
     have r1:=lbad.frozen
     clear lb0 lown0 hti hro hroe ga hbox hcW hrb lb lown lrec lbad llow hkl hbl hfs hbs hk hi0 hz0 hz1 hz2 hi hg hcw hsz hpl
     obtain ⟨so,hso⟩:∃ q,(getR tb).isSome=q:=⟨_,rfl⟩
     rw [hso] at HSN
     rw [hso]
     clear hso
     cases so with
     | false =>
       have hwb:IntKind.i64.wrap (((bd+badR pre:Nat):Int)+1)=((bd+badR pre:Nat):Int)+1:=IntWalk.i64_in _ (by have:=HK.out.2.2;have:=HBDB.out;omega)
       obtain ⟨bz,hbz⟩:∃ z,((bd+badR pre:Nat):Int)=z:=⟨_,rfl⟩
       have HBZ:=hid hbz
       have hbx:=HP.out.2.2.2.1
       rw [hbz] at hwb r0 hbx
       have HBX:=hid hbx
       clear hbz hbx
       gi_wp2_with (fail)
       obtain ⟨lb,lown,lrec,_,llow,hrb⟩:=HP.out
       obtain ⟨hfs,hbs⟩:=HSN.out
       rw [if_neg (by decide),List.append_nil] at hfs
       rw [if_neg (by decide)] at hbs
       exact Zpm HS.out.2.2 HS.out.2.1 lb lown lrec HBX.out llow (Nat.le_refl _) HK.out.1 hfs hbs HBZ.out
     | true =>
       gi_wp2_with (first
        | (gi_at_builtin
           refine Zbd rfl (.tmp 50) (.tmp 52) 141 rfl V.heap.size 145 i0 (.agg #[.int .i64 0,.int .i64 0,.int .i64 0,.string ⟨#[]⟩,.int .i64 0,.int .i64 0,.int .i64 0,.slice none 0 0,.slice none 0 0]) 9 112 Tryz.underlying141 HI.out.1 HI.out.2.1 HI.out.2.2.1 HI.out.2.2.2 rfl (by decide) (.slice FA k fc) k ((fnsR pre).flatMap fnE) rfl
            (Zd HP.out.2.1 (Zb _ _)) ⟨Wb.heap.size,0,none⟩ 1 1 (fnE ((t1,t2,ro),(LA,ln,lc),(BA,bn,bc))) rfl rfl (Ztz (Whole.made Wb _ _)) (Zpo _) (by unfold maxLen;have:=HK.out;omega) (by have:=HK.out;omega) (by rw [World.size_alloc];have:=HVS.out;omega) ?_
           intro A1 cap1 w5 hown1 hgrow1 hdj
           have y4:Boxed w5 w4.heap.size 141 (.slice FA k fc):=(hgrow1.block _ (by rw [World.size_alloc];have:=HP.out.1.lt;omega) (fun e=>by have:=(HMI.out _ e.symm).1;have:=HS.out;omega)).trans ((Zb _ _).block _ HP.out.1.lt |>.trans HP.out.1)
           have z4:=y4.cell
           have z5:=y4.frozen
           have HY4:=hid y4
           have HOWN1:=hid (And.intro hown1 (And.intro hgrow1 hdj))
           clear y4 hown1 hgrow1 hdj)
        | fail)
       obtain ⟨lb,lown,lrec,lbad,llow,hrb⟩:=HP.out
       obtain ⟨hfs,hbs⟩:=HSN.out
       rw [if_pos trivial] at hfs
       rw [if_pos trivial,Nat.add_zero] at hbs
       exact Zpn HS.out.2.2 HS.out.2.1 HVS.out HMI.out lown lrec lbad llow (Nat.le_refl _) HK.out.1 hfs hbs hrb HY4.out HOWN1.out.1 HOWN1.out.2.1
    case done =>
     intro D xs W hD hS hi hK
     obtain ⟨FA,fc,lb,lown⟩:=hi.list
     have lbad:=hi.bad
     obtain ⟨k,hk⟩:∃ k,(fnsR xs).length=k:=⟨_,rfl⟩
     obtain ⟨bz,hbz⟩:∃ z,((bd+badR xs:Nat):Int)=z:=⟨_,rfl⟩
     rw [hk] at lb lown
     rw [hbz] at lbad
     have HC:=hid (show ∀ w',Grows W w'→w'.cell? { block:=w4.heap.size,off:=0 }=some (.slice FA k fc)∧w'.cell? { block:=w3.heap.size,off:=0 }=some (.int .i64 bz) from fun w' hC=>⟨(hC.whole (show Whole W _ _ #[_] from lb)).cell 0,(hC.whole (show Whole W _ _ #[_] from lbad)).cell 0⟩)
     have HH:=hid (And.intro hi (And.intro hK (And.intro hD (And.intro hS (And.intro lown (And.intro hk hbz))))))
     clear lb lown lbad hi hK hD hS hk hbz
     gi_wp2_with (fail)
     refine wpIn_wide.2 ?_
     refine Zg (E:=Grows) [Za (.slice FA k fc),Za (.int .i64 bz),Za (.slice FA k fc),Za (.int .i64 bz),Za (.int .i64 0)] (by kernel_rfl) (by kernel_rfl) (fun _ _ _=>Grows.trans) (Ze _) ?_
     iterate 2
      refine f_val _ (by rfl) ?_ ?_
      ·intro w' hC;obtain ⟨z1,z2⟩:=HC.out w' hC;clear hC;go_simp
      simp only [Pu]
     iterate 3
      refine f_val _ (by rfl) ?_ ?_
      ·intro w' hC;clear hC;go_simp
      simp only [Pu]
     intro w6 hC _
     have HCw6:=hid hC
     clear hC
     gi_wp2_with (fail)
     obtain ⟨hi,hK,hD,hS,lown,hk,hbz⟩:=HH.out
     have hK6:=(HCw6.out.block _ (Array.getElem?_eq_some_iff.1 hK).1).trans hK
     refine ⟨by simp,.inl ⟨_,_,rfl,run_takeDeferred hK6,?_⟩⟩
     have hVV:w3.heap.size≤V.heap.size:=by rw [HS.out.2.1];have:=HS.out.2.2;omega
     have hcw:=(Zj.grows (B:=V.heap.size) HCw6.out).trans (Zj.putObj hK6 rfl hD (.deferred none))
     have hif:=hi.stay hVV (Nat.le_refl _) hcw
     have hof:=hcw.owned lown
     refine ⟨.tuple #[.slice FA k fc,.int .i64 bz,.int .i64 0],by simp [results,Tryz.results92,go_sem],FA,fc,fnsR xs,?_,FnOwn.low (b:=V.heap.size) ⟨?_,?_,hif.recs⟩ (Nat.le_trans HG3.out.size hVV),?_,Grows.trans HG3.out hif.low⟩
     ·rw [hk,←hbz,Zt1,hS]
     ·rfl
     ·rw [hk]
      exact hof
     ·rw [Zt0,hS]
   gi_wp2_with (fail)
   refine ⟨trivial,(callsIn_wide.2 (Zgw _ _ _ _)).mono ?_⟩
   rintro e V ⟨rfl,hV⟩
   obtain ⟨V1,hV1⟩:∃ V1,w4.alloc (.cells #[.slice none 0 0] 141)=V1:=⟨_,rfl⟩
   rw [hV1] at hV
   rw [hV1]
   have s1:V1.heap.size=w4.heap.size+1:=by rw [←hV1,World.size_alloc]
   have g1:Grows w4 V1:=hV1 ▸ Zb _ _
   have s2:V.heap.size=w4.heap.size+1+1:=by rw [←hV,World.size_alloc,s1]
   have g2:Grows V1 V:=hV ▸ Zb _ _
   have b1:Boxed V w4.heap.size 141 (.slice none 0 0):=by
    have h1:Boxed V1 w4.heap.size 141 (.slice none 0 0):=by rw [←hV1];exact Boxed.new _ _ _
    exact g2.whole h1
   have b2:Boxed V V1.heap.size 203 (.slice (some ⟨ig,3,none⟩) (N - 1) (ic - 1)):=by rw [←hV];exact Boxed.new _ _ _
   have b3:Boxed V w3.heap.size 3 (.int .i64 (bd:Nat)):=(Grows.trans g1 g2).whole HG4.out.2
   have g34:=Grows.trans (Zb w3 (.cells #[.int .i64 (bd:Nat)] 3)) HG4.out.1
   have s3:w3.heap.size < w4.heap.size:=by have:=HG4.out.1.size;rw [World.size_alloc] at this;omega
   have g3V:=Grows.trans g34 (Grows.trans g1 g2)
   have hgives:=Zc6 2 V1.heap.size (some ⟨ig,3,none⟩) (N - 1) (ic - 1) (ts.drop 1) w3 V HTL.out (Lowly.grows g3V) b2 (by have:=HFW.out;omega) HSM.out
   have h0:SgHas w3.heap.size V.heap.size w4.heap.size w3.heap.size bd w3 [] V:=⟨⟨none,0,b1,World.ownsRow_nil _ _ _ _⟩,(fun p hp=>by cases hp),b3,g3V⟩
   have HGI:=hid hgives
   have H0:=hid h0
   have HS:=hid (And.intro s1 (And.intro s2 s3))
   rw [s1]
   rw [s1] at HGI
   clear hV hV1 g1 g2 b1 b2 b3 g34 g3V hgives h0 s1 s2 s3
   gi_wp2_with (fail)
   refine Zbm (gf:=229) (lb:=#[.pointer (some ⟨w4.heap.size+1,0,none⟩)]) rfl (enters_of Tryz.func229 (by kernel_rfl) rfl) HGI.out (fun _=>rfl)
    w3.heap.size (w4.heap.size+1) (by have:=HS.out;omega) (by rw [HS.out.2.1];omega) (fun k hk=>by rw [HS.out.2.1];have:=HS.out.2.2;omega) (SgHas w3.heap.size V.heap.size w4.heap.size w3.heap.size bd w3) (fun _ _=>False)
    (fun _ _ _ h hc=>h.stay (by rw [HS.out.2.1];have:=HS.out.2.2;omega) (Nat.le_refl _) hc) (fun _ _ _ h _=>h) H0.out ?round ?done (fun _ _ _ _ _ h _=>h.elim)
   case round =>
    rintro l pre ⟨⟨t1,t2,tb⟩,⟨LA,ln,lc⟩,⟨BA,bn,bc⟩⟩ W0 W hsz hi hg hgd
    simp only [Nat.reduceSub]
    dsimp only [Zmc]
    gi_wp2_with (fail)
    refine ⟨Zb _ _,fun Wb hcw=>?_⟩
    obtain ⟨hti,hro⟩:=hgd
    dsimp only at hti hro
    obtain ⟨ro,hroe⟩:∃ q,rcOf tb=q:=⟨_,rfl⟩
    rw [hroe] at hro hcw
    rw [hroe]
    have hpl:pre.length < 200000:=by
     have h1:=(List.getElem?_eq_some_iff.1 hti).1
     rw [HDL.out] at h1
     have:=HFW.out
     omega
    have ga:=Zb W (.cells #[.int .i64 (t1:Nat),.int .i64 (t2:Nat),.int .i64 ro.kind,.string ⟨ro.key.toArray⟩,.int .i64 ro.id,.int .i64 ro.no,.int .i64 ro.size,.slice LA ln lc,.slice BA bn bc] 145)
    have hbox:=hcw.held (World.alloc_heap_new W (.cells #[.int .i64 (t1:Nat),.int .i64 (t2:Nat),.int .i64 ro.kind,.string ⟨ro.key.toArray⟩,.int .i64 ro.id,.int .i64 ro.no,.int .i64 ro.size,.slice LA ln lc,.slice BA bn bc] 145))
    have hcW:Zj V.heap.size W0 Wb:=(Zj.grows (Grows.trans hg ga)).trans hcw
    have hrb:=(RcOwn.mk (hcw.owned (Zd hro.locs ga)) hro.len (hcw.owned (Zd hro.b ga))).from hsz
    obtain ⟨FA,fc,lb0,lown0⟩:=hi.list
    have HMI:=hid (Zc8 (n₀:=w3.heap.size) (m:=w4.heap.size+1) lown0)
    have lb:=hcW.boxed lb0
    have lown:=hcW.owned lown0
    have hi':=hi.stay (show w3.heap.size≤V.heap.size by rw [HS.out.2.1];have:=HS.out.2.2;omega) (Nat.le_refl _) hcW
    obtain ⟨-,lrec,lbad,llow⟩:=hi'
    have HVS:=hid (show V.heap.size≤Wb.heap.size from Nat.le_trans hsz (Nat.le_trans hg.size (Nat.le_trans ga.size hcw.size)))
    have hkl:=Zl8 pre
    have hbl:=Zl9 pre
    have hfs:=Zji pre ((t1,t2,tb),(LA,ln,lc),(BA,bn,bc))
    have hbs:=Zjj pre ((t1,t2,tb),(LA,ln,lc),(BA,bn,bc))
    dsimp only at hfs hbs
    rw [hroe] at hfs
    obtain ⟨k,hk⟩:∃ k,(fnsR pre).length=k:=⟨_,rfl⟩
    rw [hk] at lb lown hkl lb0 lown0 HMI
    obtain ⟨i0,hi0,hz0,hz1,hz2⟩:=info_parts infoFnd
    have HI:=hid (And.intro hi0 (And.intro hz0 (And.intro hz1 hz2)))
    have HP:=hid (And.intro lb (And.intro lown (And.intro lrec (And.intro lbad (And.intro llow hrb)))))
    have HK:=hid (And.intro hk (And.intro hkl (And.intro hbl hpl)))
    have HSN:=hid (And.intro hfs hbs)
    have c0:=cell_of_row Wb W.heap.size 0 _ _ _ hbox
    have c1:=cell_of_row Wb W.heap.size 1 _ _ _ hbox
    have c2:=cell_of_row Wb W.heap.size 2 _ _ _ hbox
    have c3:=cell_of_row Wb W.heap.size 3 _ _ _ hbox
    have c4:=cell_of_row Wb W.heap.size 4 _ _ _ hbox
    have c5:=cell_of_row Wb W.heap.size 5 _ _ _ hbox
    have c6:=cell_of_row Wb W.heap.size 6 _ _ _ hbox
    have c7:=cell_of_row Wb W.heap.size 7 _ _ _ hbox
    have c8:=cell_of_row Wb W.heap.size 8 _ _ _ hbox
    simp only [Gt] at c0 c1 c2 c3 c4 c5 c6 c7 c8
    have q0:=lb.cell
    have q1:=lb.frozen
    have r0:=lbad.cell
    have r1:=lbad.frozen
    clear lb0 lown0 hti hro hroe ga hbox hcW hrb lb lown lrec lbad llow hkl hbl hfs hbs hk hi0 hz0 hz1 hz2 hi hg hcw hsz hpl
    obtain ⟨so,hso⟩:∃ q,(getR tb).isSome=q:=⟨_,rfl⟩
    rw [hso] at HSN
    rw [hso]
    clear hso
    cases so with
    | false =>
      have hwb:IntKind.i64.wrap (((bd+badR pre:Nat):Int)+1)=((bd+badR pre:Nat):Int)+1:=IntWalk.i64_in _ (by have:=HK.out.2.2;have:=HBDB.out;omega)
      obtain ⟨bz,hbz⟩:∃ z,((bd+badR pre:Nat):Int)=z:=⟨_,rfl⟩
      have HBZ:=hid hbz
      have hbx:=HP.out.2.2.2.1
      rw [hbz] at hwb r0 hbx
      have HBX:=hid hbx
      clear hbz hbx
      gi_wp2_with (fail)
      obtain ⟨lb,lown,lrec,_,llow,hrb⟩:=HP.out
      obtain ⟨hfs,hbs⟩:=HSN.out
      rw [if_neg (by decide),List.append_nil] at hfs
      rw [if_neg (by decide)] at hbs
      exact Zpm HS.out.2.2 HS.out.2.1 lb lown lrec HBX.out llow (Nat.le_refl _) HK.out.1 hfs hbs HBZ.out
    | true =>
      gi_wp2_with (first
       | (gi_at_builtin
          refine Zbd rfl (.tmp 50) (.tmp 52) 141 rfl V.heap.size 145 i0 (.agg #[.int .i64 0,.int .i64 0,.int .i64 0,.string ⟨#[]⟩,.int .i64 0,.int .i64 0,.int .i64 0,.slice none 0 0,.slice none 0 0]) 9 112 Tryz.underlying141 HI.out.1 HI.out.2.1 HI.out.2.2.1 HI.out.2.2.2 rfl (by decide) (.slice FA k fc) k ((fnsR pre).flatMap fnE) rfl
           (Zd HP.out.2.1 (Zb _ _)) ⟨Wb.heap.size,0,none⟩ 1 1 (fnE ((t1,t2,ro),(LA,ln,lc),(BA,bn,bc))) rfl rfl (Ztz (Whole.made Wb _ _)) (Zpo _) (by unfold maxLen;have:=HK.out;omega) (by have:=HK.out;omega) (by rw [World.size_alloc];have:=HVS.out;omega) ?_
          intro A1 cap1 w5 hown1 hgrow1 hdj
          have y4:Boxed w5 w4.heap.size 141 (.slice FA k fc):=(hgrow1.block _ (by rw [World.size_alloc];have:=HP.out.1.lt;omega) (fun e=>by have:=(HMI.out _ e.symm).1;have:=HS.out;omega)).trans ((Zb _ _).block _ HP.out.1.lt |>.trans HP.out.1)
          have z4:=y4.cell
          have z5:=y4.frozen
          have HY4:=hid y4
          have HOWN1:=hid (And.intro hown1 (And.intro hgrow1 hdj))
          clear y4 hown1 hgrow1 hdj)
       | fail)
      obtain ⟨lb,lown,lrec,lbad,llow,hrb⟩:=HP.out
      obtain ⟨hfs,hbs⟩:=HSN.out
      rw [if_pos trivial] at hfs
      rw [if_pos trivial,Nat.add_zero] at hbs
      exact Zpn HS.out.2.2 HS.out.2.1 HVS.out HMI.out lown lrec lbad llow (Nat.le_refl _) HK.out.1 hfs hbs hrb HY4.out HOWN1.out.1 HOWN1.out.2.1
   case done =>
    intro D xs W hD hS hi hK
    obtain ⟨FA,fc,lb,lown⟩:=hi.list
    have lbad:=hi.bad
    obtain ⟨k,hk⟩:∃ k,(fnsR xs).length=k:=⟨_,rfl⟩
    obtain ⟨bz,hbz⟩:∃ z,((bd+badR xs:Nat):Int)=z:=⟨_,rfl⟩
    rw [hk] at lb lown
    rw [hbz] at lbad
    have HC:=hid (show ∀ w',Grows W w'→w'.cell? { block:=w4.heap.size,off:=0 }=some (.slice FA k fc)∧w'.cell? { block:=w3.heap.size,off:=0 }=some (.int .i64 bz) from fun w' hC=>⟨(hC.whole (show Whole W _ _ #[_] from lb)).cell 0,(hC.whole (show Whole W _ _ #[_] from lbad)).cell 0⟩)
    have HH:=hid (And.intro hi (And.intro hK (And.intro hD (And.intro hS (And.intro lown (And.intro hk hbz))))))
    clear lb lown lbad hi hK hD hS hk hbz
    gi_wp2_with (fail)
    refine wpIn_wide.2 ?_
    refine Zg (E:=Grows) [Za (.slice FA k fc),Za (.int .i64 bz),Za (.slice FA k fc),Za (.int .i64 bz),Za (.int .i64 0)] (by kernel_rfl) (by kernel_rfl) (fun _ _ _=>Grows.trans) (Ze _) ?_
    iterate 2
     refine f_val _ (by rfl) ?_ ?_
     ·intro w' hC;obtain ⟨z1,z2⟩:=HC.out w' hC;clear hC;go_simp
     simp only [Pu]
    iterate 3
     refine f_val _ (by rfl) ?_ ?_
     ·intro w' hC;clear hC;go_simp
     simp only [Pu]
    intro w6 hC _
    have HCw6:=hid hC
    clear hC
    gi_wp2_with (fail)
    obtain ⟨hi,hK,hD,hS,lown,hk,hbz⟩:=HH.out
    have hK6:=(HCw6.out.block _ (Array.getElem?_eq_some_iff.1 hK).1).trans hK
    refine ⟨by simp,.inl ⟨_,_,rfl,run_takeDeferred hK6,?_⟩⟩
    have hVV:w3.heap.size≤V.heap.size:=by rw [HS.out.2.1];have:=HS.out.2.2;omega
    have hcw:=(Zj.grows (B:=V.heap.size) HCw6.out).trans (Zj.putObj hK6 rfl hD (.deferred none))
    have hif:=hi.stay hVV (Nat.le_refl _) hcw
    have hof:=hcw.owned lown
    refine ⟨.tuple #[.slice FA k fc,.int .i64 bz,.int .i64 0],by simp [results,Tryz.results92,go_sem],FA,fc,fnsR xs,?_,FnOwn.low (b:=V.heap.size) ⟨?_,?_,hif.recs⟩ (Nat.le_trans HG3.out.size hVV),?_,Grows.trans HG3.out hif.low⟩
    ·rw [hk,←hbz,Zt1,hS]
    ·rfl
    ·rw [hk]
     exact hof
    ·rw [Zt0,hS]
end
end Go.Proofs.YtkelafkbmnjpeaaGreat

