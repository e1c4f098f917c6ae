/-
  Texts that the statements lean on, one behind the other.
-/
import Derived.Test.YtkelafkbmnjpeaaGreatMG04
set_option maxHeartbeats 4000000
set_option maxRecDepth 100000
namespace Go.Proofs.YtkelafkbmnjpeaaGreat
open Go.Lib (hid)
open Go.RowKit Go.Maps Go.WideMaps
attribute [local irreducible] Go.wpQuiet
theorem Sl.off {w w':World} {A:Option Addr} {n c:Nat} {bs:List UInt8} (h:Sl w A n c bs) (hz:w.heap.size≤w'.heap.size) (hA:∀ ad,A=some ad→bs≠[]→ad.block < w.heap.size→w'.heap[ad.block]?=w.heap[ad.block]?):Sl w' A n c bs:=by
 have hr:Row w w.heap.size A n (bs.map byteV):=h.bytes
 refine ⟨(show Row w' w'.heap.size A n (bs.map byteV) from ⟨hr.len,fun k v hv=>?_⟩),h.cap,h.bare⟩
 obtain ⟨ad,he,hb,hc⟩:=hr.spot k v hv
 refine ⟨ad,he,by omega,?_⟩
 rw [←hc]
 refine World.cell?_of_block ?_
 rw [show (ad.add k).block=ad.block by unfold Addr.add;split <;> rfl]
 exact hA ad he (fun e=>by rw [e] at hv;simp at hv) hb
section
variable {w:World} {d:Nat} {own:Nat→Prop} {G:Geo} {m:Dk}
theorem Zi8 (w:World) {b n c:Nat} {A:Option Addr} {x y:Int} (h:Whole w b 108 #[.int .i64 x,.slice A n c,.int .i64 y]) :
 Calls Tryz.prog 102 #[.pointer (some ⟨b,0,none⟩)] w fun e w'=>e=.returned (.tuple #[])∧w'=w.setCell ⟨b,2,none⟩ (.int .i64 (n:Int)):=by
 have c1:w.cell? ⟨b,1,none⟩=some (.slice A n c):=h.cell 1
 have c2:w.cell? ⟨b,2,none⟩=some (.int .i64 y):=h.cell 2
 have f2:=h.free 2
 clear h
 go_enter Tryz.func102,Tryz.ntmps102
 go_wp2
 go_end0
 exact ⟨rfl,rfl⟩
theorem DkAt.filed {w w':World} (h:DkAt w d own G m) {i:Nat} (hi:i < m.made) {v:Value} {f:Fl} (hc:Whole w' (G.loc i) 108 #[.int .i64 (i:Int),v,.int .i64 (f.kept:Int)])
 (hr:w'.ownsRow 0 5 1 v f.bytes.length (f.bytes.map byteV)) (hv:∀ k,v.ownBlock=some k→(G.row i).ownBlock=some k∨w.heap.size≤k)
 (hs:Zc (fun k=>k=G.loc i∨(G.row i).ownBlock=some k) w w'):DkTo w d own w' (m.setFile i f):=by
 have hold:∀ k,v.ownBlock=some k→k < w'.heap.size:=fun k hk=>(hr.lt k hk).2
 have h1:Z6 w' (fun k=>own k∨v.ownBlock=some k) { G with row:=fun j=>if j=i then v else G.row j } (m.setFile i f) :=
  h.rest.filed hi hc hr (fun k hk=>.inl hk) (fun k hk=>hk.elim (fun hk=>Nat.lt_of_lt_of_le (h.rest.lt k hk) hs.size) (hold k)) (fun k hk=>.inr hk)
   (fun k hk=>(hv k hk).imp id fun hge j hj e=>by have:=h.rest.lt k (h.rest.or j k hj e);omega)
   (fun k hk h1 h2=>hs.same k (h.rest.lt k hk) fun e=>e.elim h1 h2)
 have hd1:¬ (d=G.loc i∨(G.row i).ownBlock=some d):=by
  rintro (e | e)
  ·exact h.free (e ▸ h.rest.ol i hi)
  ·exact h.free (h.rest.or i d hi e)
 have hsz:=hs.size
 refine ⟨_,_,⟨h1,h.top.same (hs.same d h.top.lt hd1),?_⟩,hs.wider fun k _ hk=>.inr ?_,?_⟩
 ·rintro (e | e)
  ·exact h.free e
  ·rcases hv d e with e | e
   ·exact hd1 (.inr e)
   ·have:=h.top.lt;omega
 ·rcases hk with rfl | hk
  ·exact h.rest.ol i hi
  ·exact h.rest.or i k hi hk
 ·rintro k (hk | hk)
  ·exact .inl hk
  ·exact (hv k hk).imp (h.rest.or i k hi) id
theorem Zwe (w:World) (h:DkAt w d own G m) {i:Nat} (hi:i < m.made):Calls Tryz.prog 102 #[.pointer (some ⟨G.loc i,0,none⟩)] w fun e w'=>e=.returned (.tuple #[])∧DkTo w d own w' (m.doSync i):=by
 obtain ⟨A,c,hA,_⟩:=Zo (h.rest.rows i hi)
 have hc:=h.rest.cells i hi
 rw [hA] at hc
 refine (Zi8 w hc).mono ?_
 rintro e w' ⟨rfl,hw⟩
 refine ⟨rfl,?_⟩
 have hne:G.loc i≠d:=fun e=>h.free (e ▸ h.rest.ol i hi)
 have hb:(G.row i).ownBlock≠some (G.loc i):=fun e=>by
  obtain ⟨cur,h1⟩:=Z3 (h.rest.rows i hi) e
  unfold Whole at hc
  rw [hc] at h1
  injection h1 with h1
  injection h1 with _ h1 _
  cases h1
 have hs:Zc (fun k=>k=G.loc i∨(G.row i).ownBlock=some k) w w':=hw ▸ (Zc.refl _ w).setCell (p:=⟨G.loc i,2,none⟩) (.inl rfl) _
 have hr:w'.ownsRow 0 5 1 (G.row i) (m.files i).bytes.length ((m.files i).bytes.map byteV):=Ym (h.rest.rows i hi) fun k hk=>by
  rw [hw]
  exact Below.heap_setCell _ _ _ _ fun e=>hb (by have e:k=G.loc i:=e;exact e ▸ hk)
 refine h.filed hi (f:=⟨(m.files i).bytes,(m.files i).bytes.length⟩) ?_ hr (fun k hk=>.inl hk) hs
 rw [hw,hA]
 exact hc.put 2 _
theorem Zqg (w:World) (h:DkAt w d own G m) {i:Nat} (hi:i < m.made) {a0 b0 d0:Nat} {A:Option Addr} {nb cb:Nat} {bs:List UInt8}
 (ha:Whole w a0 105 #[ptrV (G.loc i)]) (hb:Whole w b0 37 #[.slice A nb cb]) (hd:Whole w d0 24 #[ptrV d])
 (ho:∀ k,k=a0∨k=b0∨k=d0→k≠d∧¬ own k) (hs:Sl w A nb cb bs) (hoff:∀ ad,A=some ad→bs≠[]→ad.block≠d∧¬ own ad.block) (h1:(m.files i).bytes.length≤1000000000) (h2:nb≤1000000000) :
 Calls Tryz.prog 190 #[ptrV a0,ptrV b0,ptrV d0] w fun e w'=>e=.returned (.tuple #[])∧DkTo w d own w' (m.doAppend i bs):=by
 obtain ⟨A0,c0,hA0,_⟩:=Zo (h.rest.rows i hi)
 obtain ⟨i0,hi0,hz0,hz1,hz2⟩:=info_parts infoU8
 have HI:=hid (And.intro hi0 (And.intro hz0 (And.intro hz1 hz2)))
 clear hi0 hz0 hz1 hz2
 have hc:=h.rest.cells i hi
 have hrow:=h.rest.rows i hi
 rw [hA0] at hc hrow
 obtain ⟨n0,hn0⟩:∃ n0,(m.files i).bytes.length=n0:=⟨_,rfl⟩
 rw [hn0] at hc hrow h1 hA0
 have hown:∀ k,(Value.slice A0 n0 c0).ownBlock=some k→own k:=fun k hk=>h.rest.or i k hi (hA0 ▸ hk)
 have hoc:∀ k,k=a0∨k=b0∨k=d0→(Value.slice A0 n0 c0).ownBlock≠some k:=fun k hk e=>(ho k hk).2 (hown k e)
 have hlc:(Value.slice A0 n0 c0).ownBlock≠some (G.loc i):=fun e=>by
  obtain ⟨cur,h1⟩:=Z3 hrow e
  unfold Whole at hc
  rw [hc] at h1
  injection h1 with h1
  injection h1 with _ h1 _
  cases h1
 have hdc:(Value.slice A0 n0 c0).ownBlock≠some d:=fun e=>h.free (hown d e)
 have hld:G.loc i≠d:=fun e=>h.free (e ▸ h.rest.ol i hi)
 -- what stays while only the row's own block turns
 have stay:∀ w',Zc (fun k=>(Value.slice A0 n0 c0).ownBlock=some k) w w'→Whole w' a0 105 #[ptrV (G.loc i)]∧Whole w' b0 37 #[.slice A nb cb]∧Whole w' d0 24 #[ptrV d]∧Whole w' (G.loc i) 108 #[.int .i64 (i:Int),.slice A0 n0 c0,.int .i64 ((m.files i).kept:Int)]∧Whole w' d 89 (Jm m G.nb G.kb G.pv)∧Sl w' A nb cb bs:=fun w' hsp =>
  ⟨ha.same (hsp.same _ ha.lt (hoc _ (.inl rfl))),hb.same (hsp.same _ hb.lt (hoc _ (.inr (.inl rfl)))),hd.same (hsp.same _ hd.lt (hoc _ (.inr (.inr rfl)))),hc.same (hsp.same _ hc.lt hlc),h.top.same (hsp.same _ h.top.lt hdc),
   hs.off hsp.size fun ad e hne hlt=>hsp.same _ hlt fun e2=>(hoff ad e hne).2 (hown _ e2)⟩
 have HST:=hid stay
 have HROW:=hid hrow
 have HDK:=hid h
 have HQ:=hid (And.intro hi (And.intro hown (And.intro hlc (And.intro hdc hld))))
 have HA0:=hid (And.intro hA0 hn0)
 have HS:=hid hs
 have HO:=hid (And.intro ho hoff)
 clear h hi ha hb hd ho hs hoff hA0 hc hrow hn0 hown hoc hlc hdc hld stay
 generalize hlf:G.loc i=lf at *
 have HLF:=hid hlf
 clear hlf
 unfold ptrV
 go_enter Tryz.func190,Tryz.ntmps190
 go_wp2_with (fail)
 refine Za1 (G:=Grows) (E:=Zc (fun k=>(Value.slice A0 n0 c0).ownBlock=some k)) 9 [Zv _ (.pointer (some ⟨lf,0,none⟩)),Zv _ (.pointer (some ⟨lf,0,none⟩)),Zv _ (.pointer (some ⟨lf,0,none⟩)),Zv _ (.pointer (some ⟨lf,1,none⟩)),Zv _ (.slice A0 n0 c0),Zv _ (.slice A nb cb),Znj _ 0 5 (.slice A0 n0 c0) w.heap.size (n0+nb) (((m.files i).bytes.map byteV)++bs.map byteV),Zv _ (.pointer (some ⟨lf,0,none⟩)),Zv _ (.pointer (some ⟨lf,1,none⟩))] [(false,false),(false,false),(false,false),(false,false),(false,false),(false,false),(true,true),(false,false),(false,false)] (fun w=>w.ownsRow 0 5 1 (.slice A0 n0 c0) n0 ((m.files i).bytes.map byteV)) rfl mixed (by kernel_rfl) (fun _ _=>Zc.grows) (fun _ _ _=>Zc.trans) (Zae _ _) (Ym HROW.out fun _ _=>rfl) (fun _ _ h g=>Zd h g) ?_
 simp only [List.take_succ_cons,List.take_zero,List.drop_succ_cons,List.drop_zero]
 iterate 2
  refine j_val _ (by rfl) ?_ ?_
  ·intro w' hC;obtain ⟨p1,p2,p3,p4,p5,p6⟩:=HST.out w' hC;have q1:w'.cell? ⟨a0,0,none⟩=some (.pointer (some ⟨lf,0,none⟩)):=p1.cell 0;clear p1 p2 p3 p4 p5 p6;clear hC;go_simp
  simp only [Pu]
 iterate 3
  refine j_val _ (by rfl) ?_ ?_
  ·intro w' hC;obtain ⟨p1,p2,p3,p4,p5,p6⟩:=HST.out w' hC;have q1:w'.cell? ⟨lf,1,none⟩=some (.slice A0 n0 c0):=p4.cell 1;clear p1 p2 p3 p4 p5 p6;clear hC;go_simp
  simp only [Pu]
 refine j_val _ (by rfl) ?_ ?_
 ·intro w' hC;obtain ⟨p1,p2,p3,p4,p5,p6⟩:=HST.out w' hC;have q1:w'.cell? ⟨b0,0,none⟩=some (.slice A nb cb):=p2.cell 0;clear p1 p2 p3 p4 p5 p6;clear hC;go_simp
 simp only [Pu]
 refine Zjd (by rfl) (.tmp 7) (.tmp 8) 37 rfl (B:=w.heap.size) Tryz.underlying37 HI.out.1 HI.out.2.1 HI.out.2.2.1 HI.out.2.2.2 rfl rfl (.slice A0 n0 c0) (fun w' h=>⟨h,.inl rfl⟩) (Nat.le_refl _) (fun _ h=>h) (fun _ _ _ h _=>h) rfl (fun w' hC _=>⟨_,(HST.out w' hC).2.2.2.2.2.bytes⟩) HS.out.bare (Ja _) (n0+nb) rfl (((m.files i).bytes.map byteV)++bs.map byteV) rfl (by unfold maxLen;omega) (by omega) (Nat.zero_le _) (fun _ _ _ _ h _=>h) ?_
 intro A2 cc2
 simp only [Pu]
 iterate 2
  refine j_val _ (by rfl) ?_ ?_
  ·intro w' hC;obtain ⟨p1,p2,p3,p4,p5,p6⟩:=HST.out w' hC;have q1:w'.cell? ⟨lf,1,none⟩=some (.slice A0 n0 c0):=p4.cell 1;clear p1 p2 p3 p4 p5 p6;clear hC;go_simp
  simp only [Pu]
 refine Zgf ?_
 intro w2 hC hks hcls
 have HCw2:=hid hC
 have HLw2:=hid hcls
 clear hC hks hcls
 have HSTW:=hid (HST.out w2 HCw2.out)
 obtain ⟨p1,p2,p3,p4,p5,p6⟩:=HSTW.out
 have c1:w2.cell? ⟨lf,1,none⟩=some (.slice A0 n0 c0):=p4.cell 1
 have f1:=p4.free 1
 have HP:=hid (And.intro p1 (And.intro p2 (And.intro p3 (And.intro p4 (And.intro p5 p6)))))
 clear p1 p2 p3 p4 p5 p6
 go_wp2_with (fail)
 obtain ⟨w3,hw3⟩:∃ w3,w2.setCell ⟨lf,1,none⟩ (.slice A2 (n0+nb) cc2)=w3:=⟨_,rfl⟩
 rw [hw3]
 have key:DkTo w d own w3 (m.setFile i ⟨(m.files i).bytes++bs,(m.files i).kept⟩)∧Whole w3 b0 37 #[.slice A nb cb]∧Whole w3 d0 24 #[ptrV d]:=by
  obtain ⟨p1,p2,p3,p4,p5,p6⟩:=HP.out
  obtain ⟨hi,hown,hlc,hdc,hld⟩:=HQ.out
  obtain ⟨hrow,hat⟩:=HLw2.out
  have hne:∀ k,k=a0∨k=b0∨k=d0→k≠lf:=fun k hk e=>(HO.out.1 k hk).2 (e ▸ (HLF.out ▸ HDK.out.rest.ol i hi:own lf))
  have hn2:(Value.slice A2 (n0+nb) cc2).ownBlock≠some lf:=fun e=>by
   obtain ⟨cur,h1⟩:=Z3 hrow e
   unfold Whole at p4
   rw [p4] at h1
   injection h1 with h1
   injection h1 with _ h1 _
   cases h1
  have hlen:((m.files i).bytes++bs).length=n0+nb:=by rw [List.length_append,HA0.out.2,HS.out.len]
  refine ⟨HDK.out.filed hi (f:=⟨(m.files i).bytes++bs,(m.files i).kept⟩) (v:=.slice A2 (n0+nb) cc2) ?_ ?_ ?_ ?_,?_,?_⟩
  ·rw [HLF.out,←hw3]
   exact p4.put 1 _
  ·show w3.ownsRow 0 5 1 _ ((m.files i).bytes++bs).length _
   rw [hlen,List.map_append,←hw3]
   exact Ym hrow fun k hk=>Below.heap_setCell _ _ _ _ fun e=>hn2 (by have e:k=lf:=e;exact e ▸ hk)
  ·intro k hk
   rw [HA0.out.1]
   rcases hat with e | ⟨g,e,hg⟩
   ·exact .inl (e ▸ hk)
   ·rw [e] at hk
    cases hk
    exact .inr hg
  ·rw [HLF.out,HA0.out.1,←hw3]
   exact (HCw2.out.wider fun k _ hk=>.inr hk).setCell (p:=⟨lf,1,none⟩) (.inl rfl) _
  ·rw [←hw3]
   exact p2.elsewhere (fun e=>hne b0 (.inr (.inl rfl)) e) _
  ·rw [←hw3]
   exact p3.elsewhere (fun e=>hne d0 (.inr (.inr rfl)) e) _
 clear hw3
 obtain ⟨⟨own3,G3,h3,s3,o3⟩,kb,kd⟩:=key
 have H3:=hid h3
 have S3:=hid s3
 have O3:=hid o3
 have HCL:=hid (show ∀ w',Grows w3 w'→w'.cell? ⟨d0,0,none⟩=some (.pointer (some ⟨d,0,none⟩))∧w'.cell? ⟨b0,0,none⟩=some (.slice A nb cb)∧w'.cell? ⟨d,2,none⟩=some (.int .i64 m.used) from fun w' hg=>⟨hg.cellq kd,hg.cellq kb,hg.cellq h3.top⟩)
 have HLEN:=hid HS.out.len
 clear h3 s3 o3 kb kd HP HSTW HROW HST HLw2 HCw2 c1 f1
 generalize hus:m.used=us at *
 have HUS:=hid hus
 clear hus
 refine Ze (E:=Grows) 9 [Zb (.pointer (some ⟨d,0,none⟩)),Zb (.pointer (some ⟨d,0,none⟩)),Zb (.pointer (some ⟨d,2,none⟩)),Zb (.int .i64 us),Zb (.slice A nb cb),Zb (.int .i64 (nb:Int)),Zb (.int .i64 (wrap64 (us+nb))),Zb (.pointer (some ⟨d,0,none⟩)),Zb (.pointer (some ⟨d,2,none⟩))] mixed (by kernel_rfl) (fun _ _ _=>Grows.trans) (Zf _) ?_
 simp only [List.take_succ_cons,List.take_zero,List.drop_succ_cons,List.drop_zero]
 iterate 5
  refine f_val _ (by rfl) ?_ ?_
  ·intro w' hC;obtain ⟨q1,q2,q3⟩:=HCL.out w' hC;clear hC;go_simp
  simp only [Pu]
 refine f_val _ (by rfl) ?_ ?_
 ·intro w' hC;clear hC;go_simp
 simp only [Pu]
 refine f_val _ (by rfl) ?_ ?_
 ·intro w' hC;clear hC;(go_simp;unfold wrap64;rw [IntKind.wrap_i64])
 simp only [Pu]
 iterate 2
  refine f_val _ (by rfl) ?_ ?_
  ·intro w' hC;obtain ⟨q1,q2,q3⟩:=HCL.out w' hC;clear hC;go_simp
  simp only [Pu]
 refine Zu ?_
 intro w4 hC hks
 have HCw4:=hid hC
 clear hC hks
 have c2:=(HCL.out w4 HCw4.out).2.2
 have f2:=(H3.out.grow HCw4.out).top.free 2
 go_wp2_with (fail)
 go_end0
 obtain rfl:=HUS.out
 refine ⟨rfl,own3,G3,?_,?_,O3.out⟩
 ·have h4:DkAt (w4.setCell ⟨d,2,none⟩ (.int .i64 (wrap64 (m.used+nb)))) d own3 G3 { m.setFile i ⟨(m.files i).bytes++bs,(m.files i).kept⟩ with used:=wrap64 (m.used+nb) }:=(H3.out.grow HCw4.out).set 2 _ rfl rfl rfl rfl rfl rfl
  have e:m.doAppend i bs={ m.setFile i ⟨(m.files i).bytes++bs,(m.files i).kept⟩ with used:=wrap64 (m.used+nb) }:=by
   unfold Dk.doAppend
   rw [HLEN.out]
  rw [e]
  exact h4
 ·exact (S3.out.trans (Zc.grows HCw4.out)).setCell (p:=⟨d,2,none⟩) (.inl rfl) _
end
end Go.Proofs.YtkelafkbmnjpeaaGreat
set_option maxHeartbeats 4000000
set_option maxRecDepth 100000
namespace Go.Proofs.YtkelafkbmnjpeaaGreat
open Go.Lib (hid)
open Go.RowKit Go.Maps Go.WideMaps
theorem Znd {P:Program} {ops:Array Oper} {W:World} {Q:Act→World→Prop} {o:Oper} {rest:List Oper} {fs:List (Fact Grows)} {ks:Known} {a:Act} {F:Fact Grows} (hw:Region.wanted o (yielded ops a.tmps)=true)
 (h1:∀ w,Grows W w→ks.for (o.looksAt ops) w→gives P F o a.eval w) (h2:∀ x,wpF P ops Grows W Q rest fs ((o.dst,F.R x) :: ks) (a.put o.dst (F.val x))):wpF P ops Grows W Q (o :: rest) (F :: fs) ks a:=by
 unfold wpF fStep
 rw [if_pos hw]
 exact ⟨h1,h2⟩
def Zqd (N:Nat) (t:TypeId) (cs:Array Value):Fact Grows:=⟨Nat,0,fun g=>.pointer (some ⟨g,0,none⟩),fun g w=>Whole w g t cs∧N≤g,fun _ _ _ h g=>⟨g.whole h.1,h.2⟩⟩
theorem Zqe {P:Program} {N:Nat} {t:TypeId} {cs:Array Value} {o:Oper} {ρ:Operand→Value} {w:World} (hN:N≤w.heap.size) (h:(execOp ρ o).run P w=.ok (.value (.pointer (some ⟨w.heap.size,0,none⟩))) (w.alloc (.cells cs t))):gives P (Zqd N t cs) o ρ w:=by
 unfold gives
 rw [h]
 exact ⟨Za _ _,w.heap.size,rfl,Whole.made _ _ _,hN⟩
theorem Zem {P:Program} {F:Fact Grows} {o:Oper} {ρ:Operand→Value} {w:World} {f:FuncId} {args:Array Value} (h:(execOp ρ o).run P w=.ok (.enter f args) w) (hc:Calls P f args w fun e w'=>Grows w w'∧∃ x,e=.returned (F.val x)∧F.R x w'):gives P F o ρ w:=by
 unfold gives
 rw [h]
 exact hc
def Ztv (N:Nat) (n:Nm) (cs:Array Value):Fact Grows :=
 ⟨Nat×Nat,(0,0),fun p=>.func (.func 260) #[] #[.pointer (some ⟨p.2,0,none⟩),.pointer (some ⟨p.1,0,none⟩)],
  fun p w=>∃ g,Whole w p.1 9 #[strB n]∧Whole w p.2 105 #[ptrV g]∧Whole w g 108 cs∧N≤p.1∧N≤p.2∧N≤g,fun _ _ _ ⟨g,h1,h2,h3,h4⟩ hg=>⟨g,hg.whole h1,hg.whole h2,hg.whole h3,h4⟩⟩
section
variable {w:World} {d:Nat} {own:Nat→Prop} {G:Geo} {m:Dk}
theorem Zqf (w:World) {n:Nm} (h:DkAt w d own G m) {a0 b0:Nat} (ha:Whole w a0 24 #[ptrV d]) (hb:Whole w b0 9 #[strB n]) (ho:∀ k,k=a0∨k=b0→k≠d∧¬ own k)
 (hn:n.length≤1000000) (h1:m.made≤1000000000) (h2:m.pend.length≤1000000000) (h3:m.names.length≤1000000000) :
 Calls Tryz.prog 187 #[ptrV a0,ptrV b0] w fun e w'=>e=.returned (.tuple #[])∧DkTo w d own w' (m.doCreate n):=by
 have HCL:=hid (show ∀ w',Grows w w'→w'.cell? ⟨a0,0,none⟩=some (.pointer (some ⟨d,0,none⟩))∧w'.cell? ⟨b0,0,none⟩=some (.string ⟨n.toArray⟩)∧w'.cell? ⟨d,1,none⟩=some (.int .i64 (m.made:Int)) from fun w' hg=>⟨hg.cellq ha,hg.cellq hb,hg.cellq h.top⟩)
 have HDK:=hid h
 have HA:=hid (And.intro ha ho)
 have HB:=hid (And.intro h1 (And.intro h2 (And.intro h3 hn)))
 clear h ha hb ho h1 h2 h3 hn
 generalize hmd:m.made=md at HCL
 have HMD:=hid hmd
 clear hmd
 unfold ptrV
 go_enter Tryz.func187,Tryz.ntmps187
 go_wp2_with (fail)
 refine Ze (E:=Grows) 9 [Zb (.pointer (some ⟨d,0,none⟩)),Zb (.string ⟨n.toArray⟩),Zb (.pointer (some ⟨d,0,none⟩)),Zb (.pointer (some ⟨d,0,none⟩)),Zb (.pointer (some ⟨d,1,none⟩)),Zb (.int .i64 (md:Int)),Zb (.agg #[.int .i64 (md:Int),.slice none 0 0,.int .i64 0]),Zqd w.heap.size 108 #[.int .i64 (md:Int),.slice none 0 0,.int .i64 0],Ztv w.heap.size n #[.int .i64 (md:Int),.slice none 0 0,.int .i64 0]] mixed (by kernel_rfl) (fun _ _ _=>Grows.trans) (Zf _) ?_
 simp only [List.take_succ_cons,List.take_zero,List.drop_succ_cons,List.drop_zero]
 iterate 6
  refine f_val _ (by rfl) ?_ ?_
  ·intro w' hC;obtain ⟨q1,q2,q3⟩:=HCL.out w' hC;clear hC;go_simp
  simp only [Pu]
 refine f_val _ (by rfl) ?_ ?_
 ·intro w' hC;clear hC;go_simp
 simp only [Pu]
 refine Znd (by rfl) ?_ ?_
 ·intro w' hC _
  refine Zqe hC.size ?_
  clear hC;go_simp
 intro gb
 show wpF _ _ _ _ _ _ _ _ (Act.put _ _ (.pointer (some ⟨gb,0,none⟩)))
 simp only [Pu]
 refine Znd (by rfl) ?_ ?_
 ·intro w' hC hk
  have hgk:=Known.get hk 0 (d:=9) rfl rfl
  refine Zem (f:=189) (args:=#[.string ⟨n.toArray⟩,.pointer (some ⟨gb,0,none⟩)]) (by clear hC hk hgk;go_simp) ?_
  refine (Ztw n gb w' HB.out.2.2.2).mono ?_
  rintro e w'' ⟨a,b,rfl,k1,k2,k3,k4,k5⟩
  exact ⟨k5,(a,b),rfl,gb,k1,k2,k5.whole hgk.1,Nat.le_trans hC.size k3,Nat.le_trans hC.size k4,hgk.2⟩
 rintro ⟨a2,b2⟩
 show wpF _ _ _ _ _ _ _ _ (Act.put _ _ (.func (.func 260) #[] #[.pointer (some ⟨b2,0,none⟩),.pointer (some ⟨a2,0,none⟩)]))
 simp only [Pu]
 refine Zu ?_
 intro w2 hC hks
 have HCw2:=hid hC
 have HF:=hid (Known.at hks 0 rfl)
 clear hC hks
 obtain ⟨g,hg1,hg2,hg3,hg4,hg5,hg6⟩:=HF.out
 have h1:DkAt w2 d own G m:=HDK.out.grow HCw2.out
 have hsz:=HCw2.out.size
 have hno:∀ k,w.heap.size≤k→¬ own k∧k≠d:=fun k hk=>⟨fun e=>by have:=HDK.out.rest.lt k e;omega,fun e=>by have:=HDK.out.top.lt;omega⟩
 obtain rfl:=HMD.out
 have h2:=(h1.rest.making hg3 (hno g hg6).1).wider (own':=fun k=>own k∨k=g∨k=a2∨k=b2) (fun k hk=>hk.imp id .inl) (by
  rintro k (hk | rfl | rfl | rfl)
  ·exact h1.rest.lt k hk
  ·exact hg3.lt
  ·exact hg1.lt
  ·exact hg2.lt)
 have hch:ChAt w2 (fun k=>own k∨k=g∨k=a2∨k=b2) (m.made+1) (fun j=>if j=m.made then g else G.loc j) (.func (.func 260) #[] #[.pointer (some ⟨b2,0,none⟩),.pointer (some ⟨a2,0,none⟩)]) (.made n m.made) :=
  ⟨by have:=HB.out.2.2.2;unfold maxLen;omega,Nat.lt_succ_self _,a2,b2,rfl,.inr (.inr (.inl rfl)),.inr (.inr (.inr rfl)),by simp only [if_true];exact hg2,hg1⟩
 have hnd:¬ (own d∨d=g∨d=a2∨d=b2):=by
  rintro (e | e | e | e)
  ·exact h1.free e
  ·exact (hno g hg6).2 e.symm
  ·exact (hno a2 hg4).2 e.symm
  ·exact (hno b2 hg5).2 e.symm
 have HCH:=hid (Zh3 w2 h2 h1.top hnd hch (by exact HB.out.2.1) (by exact HB.out.2.2.1))
 have HOW:=hid (And.intro hg4 (And.intro hg5 hg6))
 have HAW:=hid (And.intro (HCw2.out.whole HA.out.1) (And.intro (HA.out.2 a0 (.inl rfl)) HA.out.1.lt))
 clear hg1 hg2 hg3 hg4 hg5 hg6 h1 h2 hch hnd HF hno hsz
 go_wp2_with (fail)
 refine HCH.out.mono ?_
 rintro e w3 ⟨rfl,⟨own3,G3,r3,t3,n3,o3⟩,s3⟩
 have c1:w3.cell? ⟨d,1,none⟩=some (.int .i64 (m.made:Int)):=t3.cell 1
 have f1:=t3.free 1
 have c0:w3.cell? ⟨a0,0,none⟩=some (.pointer (some ⟨d,0,none⟩)):=(HAW.out.1.same (s3.same a0 HAW.out.1.lt (by
  have:=HAW.out.2.2
  rintro (e | e | e | e | e)
  ·exact HAW.out.2.1.1 e
  ·exact HAW.out.2.1.2 e
  ·have:=HOW.out.2.2;omega
  ·have:=HOW.out.1;omega
  ·have:=HOW.out.2.1;omega))).cell 0
 have R3:=hid (And.intro r3 (And.intro t3 (And.intro n3 (And.intro o3 s3))))
 clear r3 t3 n3 o3 s3 HCH HAW
 have e1:wrap64 ((m.made:Int)+1)=((m.made+1:Nat):Int):=by
  have:=HB.out.1
  rw [IntWalk.wrap64_in _ (by omega)]
  rfl
 go_wp2_with (fail)
 go_end0
 obtain ⟨r3,t3,n3,o3,s3⟩:=R3.out
 have hsz:=HCw2.out.size
 refine ⟨rfl,own3,G3,⟨(r3.stay (fun k hk=>Below.heap_setCell _ _ _ _ fun e=>n3 (by have e:k=d:=e;exact e ▸ hk)) (by simp [World.setCell])).like rfl rfl rfl rfl rfl,?_,n3⟩,?_,?_⟩
 ·have:=t3.put 1 (.int .i64 ((m.made+1:Nat):Int))
  exact this
 ·refine (((Zc.grows HCw2.out).trans (s3.wider (own':=fun k=>(k=d∨own k)∨w.heap.size≤k) fun k _ hk=>?_)).setCell (p:=⟨d,1,none⟩) (.inl (.inl rfl)) _).wider fun k hk h=>h.elim id fun h=>by omega
  rcases hk with e | e | e | e | e
  ·exact .inl (.inl e)
  ·exact .inl (.inr e)
  ·exact .inr (e ▸ HOW.out.2.2)
  ·exact .inr (e ▸ HOW.out.1)
  ·exact .inr (e ▸ HOW.out.2.1)
 ·intro k hk
  rcases o3 k hk with (e | e | e | e) | e
  ·exact .inl e
  ·exact .inr (e ▸ HOW.out.2.2)
  ·exact .inr (e ▸ HOW.out.1)
  ·exact .inr (e ▸ HOW.out.2.1)
  ·exact .inr (by omega)
end
end Go.Proofs.YtkelafkbmnjpeaaGreat
set_option maxHeartbeats 4000000
set_option maxRecDepth 100000
namespace Go.Proofs.YtkelafkbmnjpeaaGreat
open Go.Lib (hid)
open Go.RowKit Go.Maps Go.WideMaps
def Zp9 (N:Nat) (n:Nm):Fact Grows :=
 ⟨Nat,0,fun p=>.func (.func 261) #[] #[.pointer (some ⟨p,0,none⟩)],fun p w=>Whole w p 9 #[strB n]∧N≤p,fun _ _ _ h hg=>⟨hg.whole h.1,h.2⟩⟩
def Zqa (N:Nat) (n to:Nm):Fact Grows :=
 ⟨Nat×Nat,(0,0),fun p=>.func (.func 304) #[] #[.pointer (some ⟨p.1,0,none⟩),.pointer (some ⟨p.2,0,none⟩)],fun p w=>Whole w p.1 9 #[strB n]∧Whole w p.2 9 #[strB to]∧N≤p.1∧N≤p.2,fun _ _ _ h hg=>⟨hg.whole h.1,hg.whole h.2.1,h.2.2⟩⟩
section
variable {w:World} {d:Nat} {own:Nat→Prop} {G:Geo} {m:Dk}
theorem Zke {w w2:World} (h:DkAt w d own G m) (hg:Grows w w2) (new:Nat→Prop) (hnew:∀ k,new k→w.heap.size≤k∧k < w2.heap.size) {v:Value} {c:Ch} (hc:ChAt w2 (fun k=>own k∨new k) m.made G.loc v c)
 (h2:m.pend.length≤1000000000) (h3:m.names.length≤1000000000) :
 Calls Tryz.prog 188 #[.pointer (some ⟨d,0,none⟩),v] w2 fun e w'=>e=.returned (.tuple #[])∧DkTo w d own w' (m.change c):=by
 have h1:=h.grow hg
 have r2:Z6 w2 (fun k=>own k∨new k) G m:=h1.rest.wider (fun k hk=>.inl hk) fun k hk=>hk.elim (h1.rest.lt k) fun e=>(hnew k e).2
 have hnd:¬ (own d∨new d):=fun e=>e.elim h.free fun e=>by have:=(hnew d e).1;have:=h.top.lt;omega
 refine (Zh3 w2 r2 h1.top hnd hc h2 h3).mono ?_
 rintro e w3 ⟨rfl,⟨own3,G3,r3,t3,n3,o3⟩,s3⟩
 refine ⟨rfl,own3,G3,⟨r3,t3,n3⟩,?_,?_⟩
 ·refine ((Zc.grows hg).trans (s3.wider (own':=fun k=>(k=d∨own k)∨w.heap.size≤k) fun k _ hk=>?_)).wider fun k hk h=>h.elim id fun h=>by omega
  rcases hk with e | e | e
  ·exact .inl (.inl e)
  ·exact .inl (.inr e)
  ·exact .inr (hnew k e).1
 ·intro k hk
  rcases o3 k hk with (e | e) | e
  ·exact .inl e
  ·exact .inr (hnew k e).1
  ·exact .inr (Nat.le_trans hg.size e)
theorem Zqb (w:World) {n:Nm} (h:DkAt w d own G m) {i:Nat} (hi:i < m.made) {a0 b0 d0:Nat} (ha:Whole w a0 24 #[ptrV d]) (hb:Whole w b0 105 #[ptrV (G.loc i)]) (hd:Whole w d0 9 #[strB n])
 (ho:∀ k,k=a0∨k=b0∨k=d0→k≠d∧¬ own k) (hn:n.length≤1000000) (h2:m.pend.length≤1000000000) (h3:m.names.length≤1000000000) :
 Calls Tryz.prog 193 #[ptrV a0,ptrV b0,ptrV d0] w fun e w'=>e=.returned (.tuple #[])∧DkTo w d own w' (m.doRemove i n):=by
 obtain ⟨A0,c0,hA0,_⟩:=Zo (h.rest.rows i hi)
 have hc:=h.rest.cells i hi
 rw [hA0] at hc
 have HCL:=hid (show ∀ w',Grows w w'→w'.cell? ⟨a0,0,none⟩=some (.pointer (some ⟨d,0,none⟩))∧w'.cell? ⟨b0,0,none⟩=some (.pointer (some ⟨G.loc i,0,none⟩))∧w'.cell? ⟨d,2,none⟩=some (.int .i64 m.used)∧w'.cell? ⟨G.loc i,1,none⟩=some (.slice A0 (m.files i).bytes.length c0)
  from fun w' hg=>⟨hg.cellq ha,hg.cellq hb,hg.cellq h.top,hg.cellq hc⟩)
 have HDK:=hid h
 have HA:=hid (And.intro ha (And.intro hd ho))
 have HB:=hid (And.intro h2 (And.intro h3 hn))
 clear h ha hb hd ho h2 h3 hn hc hA0
 generalize hmd:m.used=us at HCL
 have HMD:=hid hmd
 clear hmd
 generalize hfl:(m.files i).bytes.length=nf at HCL
 have HFL:=hid hfl
 clear hfl
 generalize G.loc i=lf at HCL
 unfold ptrV
 go_enter Tryz.func193,Tryz.ntmps193
 go_wp2_with (fail)
 refine Ze (E:=Grows) 12 [Zb (.pointer (some ⟨d,0,none⟩)),Zb (.pointer (some ⟨d,0,none⟩)),Zb (.pointer (some ⟨d,2,none⟩)),Zb (.int .i64 us),Zb (.pointer (some ⟨lf,0,none⟩)),Zb (.pointer (some ⟨lf,0,none⟩)),Zb (.pointer (some ⟨lf,1,none⟩)),Zb (.slice A0 nf c0),Zb (.int .i64 (nf:Int)),Zb (.int .i64 (wrap64 (us - nf))),Zb (.pointer (some ⟨d,0,none⟩)),Zb (.pointer (some ⟨d,2,none⟩))] mixed (by kernel_rfl) (fun _ _ _=>Grows.trans) (Zf _) ?_
 simp only [List.take_succ_cons,List.take_zero,List.drop_succ_cons,List.drop_zero]
 iterate 8
  refine f_val _ (by rfl) ?_ ?_
  ·intro w' hC;obtain ⟨q1,q2,q3,q4⟩:=HCL.out w' hC;clear hC;go_simp
  simp only [Pu]
 refine f_val _ (by rfl) ?_ ?_
 ·intro w' hC;clear hC;go_simp
 simp only [Pu]
 refine f_val _ (by rfl) ?_ ?_
 ·intro w' hC;clear hC;(go_simp;unfold wrap64;rw [IntKind.wrap_i64])
 simp only [Pu]
 iterate 2
  refine f_val _ (by rfl) ?_ ?_
  ·intro w' hC;obtain ⟨q1,q2,q3,q4⟩:=HCL.out w' hC;clear hC;go_simp
  simp only [Pu]
 refine Zu ?_
 intro w2 hC hks
 have HCw2:=hid hC
 clear hC hks
 have c2:=(HCL.out w2 HCw2.out).2.2.1
 have f2:=(HDK.out.grow HCw2.out).top.free 2
 go_wp2_with (fail)
 obtain ⟨w3,hw3⟩:∃ w3,w2.setCell ⟨d,2,none⟩ (.int .i64 (wrap64 (us - nf)))=w3:=⟨_,rfl⟩
 rw [hw3]
 have hne:∀ k,k=a0∨k=b0∨k=d0→k≠d:=fun k hk=>(HA.out.2.2 k hk).1
 have h3:DkAt w3 d own G { m with used:=wrap64 (us - nf) }:=hw3 ▸ (HDK.out.grow HCw2.out).set 2 _ rfl rfl rfl rfl rfl rfl
 have s3:Zc (fun k=>k=d) w w3:=hw3 ▸ (Zc.grows (own:=fun k=>k=d) HCw2.out).setCell (p:=⟨d,2,none⟩) rfl _
 have ka:Whole w3 a0 24 #[ptrV d]:=HA.out.1.same (s3.same a0 HA.out.1.lt (hne a0 (.inl rfl)))
 have kd:Whole w3 d0 9 #[strB n]:=HA.out.2.1.same (s3.same d0 HA.out.2.1.lt (hne d0 (.inr (.inr rfl))))
 have HC3:=hid (show ∀ w',Grows w3 w'→w'.cell? ⟨a0,0,none⟩=some (.pointer (some ⟨d,0,none⟩))∧w'.cell? ⟨d0,0,none⟩=some (.string ⟨n.toArray⟩) from fun w' hg=>⟨hg.cellq ka,hg.cellq kd⟩)
 have H3:=hid h3
 have S3:=hid s3
 clear h3 s3 ka kd hne hw3 c2 f2
 refine Ze (E:=Grows) 3 [Zb (.pointer (some ⟨d,0,none⟩)),Zb (.string ⟨n.toArray⟩),Zp9 w3.heap.size n] mixed (by kernel_rfl) (fun _ _ _=>Grows.trans) (Zf _) ?_
 simp only [List.take_succ_cons,List.take_zero,List.drop_succ_cons,List.drop_zero]
 iterate 2
  refine f_val _ (by rfl) ?_ ?_
  ·intro w' hC;obtain ⟨q1,q2⟩:=HC3.out w' hC;clear hC;go_simp
  simp only [Pu]
 refine Znd (by rfl) ?_ ?_
 ·intro w' hC _
  refine Zem (f:=194) (args:=#[.string ⟨n.toArray⟩]) (by clear hC;go_simp) ?_
  refine (Zqh n w' HB.out.2.2).mono ?_
  rintro e w'' ⟨a,rfl,k1,k3,k5⟩
  exact ⟨k5,a,rfl,k1,Nat.le_trans hC.size k3⟩
 intro a2
 show wpF _ _ _ _ _ _ _ _ (Act.put _ _ (.func (.func 261) #[] #[.pointer (some ⟨a2,0,none⟩)]))
 simp only [Pu]
 refine Zu ?_
 intro w4 hC hks
 have HCw4:=hid hC
 have HF:=hid (Known.at hks 0 rfl)
 clear hC hks
 have hch:ChAt w4 (fun k=>own k∨k=a2) m.made G.loc (.func (.func 261) #[] #[.pointer (some ⟨a2,0,none⟩)]) (.taken n) :=
  ⟨by have:=HB.out.2.2;unfold maxLen;omega,a2,rfl,.inr rfl,HF.out.1⟩
 have HCH:=hid (Zke H3.out HCw4.out (fun k=>k=a2) (fun k hk=>hk ▸ ⟨HF.out.2,HF.out.1.lt⟩) hch HB.out.1 HB.out.2.1)
 clear hch
 go_wp2_with (fail)
 refine HCH.out.mono ?_
 rintro e w5 ⟨rfl,h5⟩
 have H5:=hid h5
 clear h5
 go_wp2_with (fail)
 go_end0
 obtain rfl:=HMD.out
 obtain rfl:=HFL.out
 exact ⟨rfl,DkTo.behind S3.out H5.out⟩
theorem Zqc (w:World) {n to:Nm} (h:DkAt w d own G m) {a0 b0 d0:Nat} (ha:Whole w a0 24 #[ptrV d]) (hb:Whole w b0 9 #[strB to]) (hd:Whole w d0 9 #[strB n])
 (ho:∀ k,k=a0∨k=b0∨k=d0→k≠d∧¬ own k) (hn:n.length≤1000000) (ht:to.length≤1000000) (h2:m.pend.length≤1000000000) (h3:m.names.length≤1000000000) :
 Calls Tryz.prog 264 #[ptrV a0,ptrV b0,ptrV d0] w fun e w'=>e=.returned (.tuple #[])∧DkTo w d own w' (m.doRename n to):=by
 have c0:w.cell? ⟨a0,0,none⟩=some (.pointer (some ⟨d,0,none⟩)):=ha.cell 0
 have c1:w.cell? ⟨b0,0,none⟩=some (.string ⟨to.toArray⟩):=hb.cell 0
 have c2:w.cell? ⟨d,2,none⟩=some (.int .i64 m.used):=h.cell 2
 have f2:=h.top.free 2
 have HSZ:=hid (Zng w h (n:=to) (by unfold maxLen;omega))
 have HDK:=hid h
 have HA:=hid (And.intro ha (And.intro hb (And.intro hd ho)))
 have HB:=hid (And.intro h2 (And.intro h3 (And.intro hn ht)))
 clear h ha hb hd ho h2 h3 hn ht
 generalize hmd:m.used=us at c2
 have HMD:=hid hmd
 clear hmd
 generalize hsz:(m.size to).1=sz at HSZ
 have HSE:=hid hsz
 clear hsz
 generalize (m.size to).2=sb at HSZ
 unfold ptrV
 go_enter Tryz.func264,Tryz.ntmps264
 go_wp2_with (fail)
 refine HSZ.out.mono ?_
 rintro e w2 ⟨rfl,rfl⟩
 clear HSZ
 go_wp2_with (fail)
 obtain ⟨w3,hw3⟩:∃ w3,w.setCell ⟨d,2,none⟩ (.int .i64 (wrap64 (us - sz)))=w3:=⟨_,rfl⟩
 rw [hw3]
 have hne:∀ k,k=a0∨k=b0∨k=d0→k≠d:=fun k hk=>(HA.out.2.2.2 k hk).1
 have h3:DkAt w3 d own G { m with used:=wrap64 (us - sz) }:=hw3 ▸ HDK.out.set 2 _ rfl rfl rfl rfl rfl rfl
 have s3:Zc (fun k=>k=d) w w3:=hw3 ▸ (Zc.refl (fun k=>k=d) w).setCell (p:=⟨d,2,none⟩) rfl _
 have ka:Whole w3 a0 24 #[ptrV d]:=HA.out.1.same (s3.same a0 HA.out.1.lt (hne a0 (.inl rfl)))
 have kb:Whole w3 b0 9 #[strB to]:=HA.out.2.1.same (s3.same b0 HA.out.2.1.lt (hne b0 (.inr (.inl rfl))))
 have kd:Whole w3 d0 9 #[strB n]:=HA.out.2.2.1.same (s3.same d0 HA.out.2.2.1.lt (hne d0 (.inr (.inr rfl))))
 have HC3:=hid (show ∀ w',Grows w3 w'→w'.cell? ⟨a0,0,none⟩=some (.pointer (some ⟨d,0,none⟩))∧w'.cell? ⟨d0,0,none⟩=some (.string ⟨n.toArray⟩)∧w'.cell? ⟨b0,0,none⟩=some (.string ⟨to.toArray⟩) from fun w' hg=>⟨hg.cellq ka,hg.cellq kd,hg.cellq kb⟩)
 have H3:=hid h3
 have S3:=hid s3
 clear h3 s3 ka kb kd hne hw3 c2 f2 c0 c1
 refine Ze (E:=Grows) 4 [Zb (.pointer (some ⟨d,0,none⟩)),Zb (.string ⟨n.toArray⟩),Zb (.string ⟨to.toArray⟩),Zqa w3.heap.size n to] mixed (by kernel_rfl) (fun _ _ _=>Grows.trans) (Zf _) ?_
 simp only [List.take_succ_cons,List.take_zero,List.drop_succ_cons,List.drop_zero]
 iterate 3
  refine f_val _ (by rfl) ?_ ?_
  ·intro w' hC;obtain ⟨q1,q2,q3⟩:=HC3.out w' hC;clear hC;go_simp
  simp only [Pu]
 refine Znd (by rfl) ?_ ?_
 ·intro w' hC _
  refine Zem (f:=265) (args:=#[.string ⟨n.toArray⟩,.string ⟨to.toArray⟩]) (by clear hC;go_simp) ?_
  refine (Zqi n to w' HB.out.2.2.1 HB.out.2.2.2).mono ?_
  rintro e w'' ⟨a,b,rfl,k1,k2,k3,k4,k5⟩
  exact ⟨k5,(a,b),rfl,k1,k2,Nat.le_trans hC.size k3,Nat.le_trans hC.size k4⟩
 rintro ⟨a2,b2⟩
 show wpF _ _ _ _ _ _ _ _ (Act.put _ _ (.func (.func 304) #[] #[.pointer (some ⟨a2,0,none⟩),.pointer (some ⟨b2,0,none⟩)]))
 simp only [Pu]
 refine Zu ?_
 intro w4 hC hks
 have HCw4:=hid hC
 have HF:=hid (Known.at hks 0 rfl)
 clear hC hks
 have hch:ChAt w4 (fun k=>own k∨k=a2∨k=b2) m.made G.loc (.func (.func 304) #[] #[.pointer (some ⟨a2,0,none⟩),.pointer (some ⟨b2,0,none⟩)]) (.moved n to) :=
  ⟨by have:=HB.out.2.2.1;unfold maxLen;omega,by have:=HB.out.2.2.2;unfold maxLen;omega,a2,b2,rfl,.inr (.inl rfl),.inr (.inr rfl),HF.out.1,HF.out.2.1⟩
 have HCH:=hid (Zke H3.out HCw4.out (fun k=>k=a2∨k=b2) (fun k hk=>by
  rcases hk with rfl | rfl
  ·exact ⟨HF.out.2.2.1,HF.out.1.lt⟩
  ·exact ⟨HF.out.2.2.2,HF.out.2.1.lt⟩) hch HB.out.1 HB.out.2.1)
 clear hch
 go_wp2_with (fail)
 refine HCH.out.mono ?_
 rintro e w5 ⟨rfl,h5⟩
 have H5:=hid h5
 clear h5
 go_wp2_with (fail)
 go_end0
 obtain rfl:=HMD.out
 obtain rfl:=HSE.out
 exact ⟨rfl,DkTo.behind S3.out H5.out⟩
end
end Go.Proofs.YtkelafkbmnjpeaaGreat
