/-
  Texts that the statements lean on, one behind the other.
-/
import Derived.Test.YtkelafkbmnjpeaaGreatMG05
set_option linter.unusedSimpArgs false
set_option linter.unusedVariables false
set_option maxHeartbeats 4000000
set_option maxRecDepth 100000
namespace Go.Proofs.YtkelafkbmnjpeaaGreat
open Go.Lib (hid)
open Go.RowKit Go.Maps Go.WideMaps
theorem Zlz {P:Program} {ops:Array Oper} {W:World} {Q:Act→World→Prop} {o:Oper} {rest:List Oper} {fs:List (Fact Grows)} {ks:Known} {a:Act} {F:Fact Grows} (hw:Region.wanted o (yielded ops a.tmps)=true)
 (h1:∀ w,Grows W w→ks.for (o.looksAt ops) w→gives P F o a.eval w) (h2:∀ x,wpF P ops Grows W Q rest fs ((o.dst,F.R x) :: ks) (a.put o.dst (F.val x))):wpF P ops Grows W Q (o :: rest) (F :: fs) ks a:=by
 unfold wpF fStep
 rw [if_pos hw]
 exact ⟨h1,h2⟩
def Zoy (N:Nat) (t:TypeId) (cs:Array Value):Fact Grows:=⟨Nat,0,fun g=>.pointer (some ⟨g,0,none⟩),fun g w=>Whole w g t cs∧N≤g,fun _ _ _ h g=>⟨g.whole h.1,h.2⟩⟩
theorem Zoz {P:Program} {N:Nat} {t:TypeId} {cs:Array Value} {o:Oper} {ρ:Operand→Value} {w:World} (hN:N≤w.heap.size) (h:(execOp ρ o).run P w=.ok (.value (.pointer (some ⟨w.heap.size,0,none⟩))) (w.alloc (.cells cs t))):gives P (Zoy N t cs) o ρ w:=by
 unfold gives
 rw [h]
 exact ⟨Zb _ _,w.heap.size,rfl,Whole.made _ _ _,hN⟩
theorem Zdk {P:Program} {F:Fact Grows} {o:Oper} {ρ:Operand→Value} {w:World} {f:FuncId} {args:Array Value} (h:(execOp ρ o).run P w=.ok (.enter f args) w) (hc:Calls P f args w fun e w'=>Grows w w'∧∃ x,e=.returned (F.val x)∧F.R x w'):gives P F o ρ w:=by
 unfold gives
 rw [h]
 exact hc
def Zr0 (N:Nat) (n:Nm) (cs:Array Value):Fact Grows :=
 ⟨Nat×Nat,(0,0),fun p=>.func (.func 260) #[] #[.pointer (some ⟨p.2,0,none⟩),.pointer (some ⟨p.1,0,none⟩)],
  fun p w=>∃ g,Whole w p.1 9 #[strB n]∧Whole w p.2 105 #[ptrV g]∧Whole w g 108 cs∧N≤p.1∧N≤p.2∧N≤g,fun _ _ _ ⟨g,h1,h2,h3,h4⟩ hg=>⟨g,hg.whole h1,hg.whole h2,hg.whole h3,h4⟩⟩
section
variable {w:World} {d:Nat} {own:Nat→Prop} {G:Geo} {m:Dk}
theorem Zo0 (w:World) {n:Nm} (h:DkAt w d own G m) {a0 b0:Nat} (ha:Whole w a0 24 #[ptrV d]) (hb:Whole w b0 9 #[strB n]) (ho:∀ k,k=a0∨k=b0→k≠d∧¬ own k)
 (hn:n.length≤1000000) (h1:m.made≤1000000000) (h2:m.pend.length≤1000000000) (h3:m.names.length≤1000000000) :
 Calls Tryz.prog 187 #[ptrV a0,ptrV b0] w fun e w'=>e=.returned (.tuple #[])∧DkTo w d own w' (m.doCreate n):=by
 have HCL:=hid (show ∀ w',Grows w w'→w'.cell? ⟨a0,0,none⟩=some (.pointer (some ⟨d,0,none⟩))∧w'.cell? ⟨b0,0,none⟩=some (.string ⟨n.toArray⟩)∧w'.cell? ⟨d,1,none⟩=some (.int .i64 (m.made:Int)) from fun w' hg=>⟨hg.cellq ha,hg.cellq hb,hg.cellq h.top⟩)
 have HDK:=hid h
 have HA:=hid (And.intro ha ho)
 have HB:=hid (And.intro h1 (And.intro h2 (And.intro h3 hn)))
 clear h ha hb ho h1 h2 h3 hn
 generalize hmd:m.made=md at HCL
 have HMD:=hid hmd
 clear hmd
 unfold ptrV
 go_enter Tryz.func187,Tryz.ntmps187
 go_wp2_with (fail)
 refine Zf (E:=Grows) 9 [Za (.pointer (some ⟨d,0,none⟩)),Za (.string ⟨n.toArray⟩),Za (.pointer (some ⟨d,0,none⟩)),Za (.pointer (some ⟨d,0,none⟩)),Za (.pointer (some ⟨d,1,none⟩)),Za (.int .i64 (md:Int)),Za (.agg #[.int .i64 (md:Int),.slice none 0 0,.int .i64 0]),Zoy w.heap.size 108 #[.int .i64 (md:Int),.slice none 0 0,.int .i64 0],Zr0 w.heap.size n #[.int .i64 (md:Int),.slice none 0 0,.int .i64 0]] mixed (by kernel_rfl) (fun _ _ _=>Grows.trans) (Ze _) ?_
 simp only [List.take_succ_cons,List.take_zero,List.drop_succ_cons,List.drop_zero]
 iterate 6
  refine f_val _ (by rfl) ?_ ?_
  ·intro w' hC;obtain ⟨q1,q2,q3⟩:=HCL.out w' hC;clear hC;go_simp
  simp only [Pu]
 refine f_val _ (by rfl) ?_ ?_
 ·intro w' hC;clear hC;go_simp
 simp only [Pu]
 refine Zlz (by rfl) ?_ ?_
 ·intro w' hC _
  refine Zoz hC.size ?_
  clear hC;go_simp
 intro gb
 show wpF _ _ _ _ _ _ _ _ (Act.put _ _ (.pointer (some ⟨gb,0,none⟩)))
 simp only [Pu]
 refine Zlz (by rfl) ?_ ?_
 ·intro w' hC hk
  have hgk:=Known.get hk 0 (d:=9) rfl rfl
  refine Zdk (f:=189) (args:=#[.string ⟨n.toArray⟩,.pointer (some ⟨gb,0,none⟩)]) (by clear hC hk hgk;go_simp) ?_
  refine (Zr2 n gb w' HB.out.2.2.2).mono ?_
  rintro e w'' ⟨a,b,rfl,k1,k2,k3,k4,k5⟩
  exact ⟨k5,(a,b),rfl,gb,k1,k2,k5.whole hgk.1,Nat.le_trans hC.size k3,Nat.le_trans hC.size k4,hgk.2⟩
 rintro ⟨a2,b2⟩
 show wpF _ _ _ _ _ _ _ _ (Act.put _ _ (.func (.func 260) #[] #[.pointer (some ⟨b2,0,none⟩),.pointer (some ⟨a2,0,none⟩)]))
 simp only [Pu]
 refine Zs ?_
 intro w2 hC hks
 have HCw2:=hid hC
 have HF:=hid (Known.at hks 0 rfl)
 clear hC hks
 obtain ⟨g,hg1,hg2,hg3,hg4,hg5,hg6⟩:=HF.out
 have h1:DkAt w2 d own G m:=HDK.out.grow HCw2.out
 have hsz:=HCw2.out.size
 have hno:∀ k,w.heap.size≤k→¬ own k∧k≠d:=fun k hk=>⟨fun e=>by have:=HDK.out.rest.lt k e;omega,fun e=>by have:=HDK.out.top.lt;omega⟩
 obtain rfl:=HMD.out
 have h2:=(h1.rest.making hg3 (hno g hg6).1).wider (own':=fun k=>own k∨k=g∨k=a2∨k=b2) (fun k hk=>hk.imp id .inl) (by
  rintro k (hk | rfl | rfl | rfl)
  ·exact h1.rest.lt k hk
  ·exact hg3.lt
  ·exact hg1.lt
  ·exact hg2.lt)
 have hch:ChAt w2 (fun k=>own k∨k=g∨k=a2∨k=b2) (m.made+1) (fun j=>if j=m.made then g else G.loc j) (.func (.func 260) #[] #[.pointer (some ⟨b2,0,none⟩),.pointer (some ⟨a2,0,none⟩)]) (.made n m.made) :=
  ⟨by have:=HB.out.2.2.2;unfold maxLen;omega,Nat.lt_succ_self _,a2,b2,rfl,.inr (.inr (.inl rfl)),.inr (.inr (.inr rfl)),by simp only [if_true];exact hg2,hg1⟩
 have hnd:¬ (own d∨d=g∨d=a2∨d=b2):=by
  rintro (e | e | e | e)
  ·exact h1.free e
  ·exact (hno g hg6).2 e.symm
  ·exact (hno a2 hg4).2 e.symm
  ·exact (hno b2 hg5).2 e.symm
 have HCH:=hid (Zgh w2 h2 h1.top hnd hch (by exact HB.out.2.1) (by exact HB.out.2.2.1))
 have HOW:=hid (And.intro hg4 (And.intro hg5 hg6))
 have HAW:=hid (And.intro (HCw2.out.whole HA.out.1) (And.intro (HA.out.2 a0 (.inl rfl)) HA.out.1.lt))
 clear hg1 hg2 hg3 hg4 hg5 hg6 h1 h2 hch hnd HF hno hsz
 go_wp2_with (fail)
 refine HCH.out.mono ?_
 rintro e w3 ⟨rfl,⟨own3,G3,r3,t3,n3,o3⟩,s3⟩
 have c1:w3.cell? ⟨d,1,none⟩=some (.int .i64 (m.made:Int)):=t3.cell 1
 have f1:=t3.free 1
 have c0:w3.cell? ⟨a0,0,none⟩=some (.pointer (some ⟨d,0,none⟩)):=(HAW.out.1.same (s3.same a0 HAW.out.1.lt (by
  have:=HAW.out.2.2
  rintro (e | e | e | e | e)
  ·exact HAW.out.2.1.1 e
  ·exact HAW.out.2.1.2 e
  ·have:=HOW.out.2.2;omega
  ·have:=HOW.out.1;omega
  ·have:=HOW.out.2.1;omega))).cell 0
 have R3:=hid (And.intro r3 (And.intro t3 (And.intro n3 (And.intro o3 s3))))
 clear r3 t3 n3 o3 s3 HCH HAW
 have e1:wrap64 ((m.made:Int)+1)=((m.made+1:Nat):Int):=by
  have:=HB.out.1
  rw [IntWalk.wrap64_in _ (by omega)]
  rfl
 go_wp2_with (fail)
 go_end0
 obtain ⟨r3,t3,n3,o3,s3⟩:=R3.out
 have hsz:=HCw2.out.size
 refine ⟨rfl,own3,G3,⟨(r3.stay (fun k hk=>Below.heap_setCell _ _ _ _ fun e=>n3 (by have e:k=d:=e;exact e ▸ hk)) (by simp [World.setCell])).like rfl rfl rfl rfl rfl,?_,n3⟩,?_,?_⟩
 ·have:=t3.put 1 (.int .i64 ((m.made+1:Nat):Int))
  exact this
 ·refine (((Zc.grows HCw2.out).trans (s3.wider (own':=fun k=>(k=d∨own k)∨w.heap.size≤k) fun k _ hk=>?_)).setCell (p:=⟨d,1,none⟩) (.inl (.inl rfl)) _).wider fun k hk h=>h.elim id fun h=>by omega
  rcases hk with e | e | e | e | e
  ·exact .inl (.inl e)
  ·exact .inl (.inr e)
  ·exact .inr (e ▸ HOW.out.2.2)
  ·exact .inr (e ▸ HOW.out.1)
  ·exact .inr (e ▸ HOW.out.2.1)
 ·intro k hk
  rcases o3 k hk with (e | e | e | e) | e
  ·exact .inl e
  ·exact .inr (e ▸ HOW.out.2.2)
  ·exact .inr (e ▸ HOW.out.1)
  ·exact .inr (e ▸ HOW.out.2.1)
  ·exact .inr (by omega)
end
end Go.Proofs.YtkelafkbmnjpeaaGreat
set_option maxHeartbeats 4000000
set_option maxRecDepth 100000
namespace Go.Proofs.YtkelafkbmnjpeaaGreat
open Go.Lib (hid)
open Go.RowKit Go.Maps Go.WideMaps
def Zou (N:Nat) (n:Nm):Fact Grows :=
 ⟨Nat,0,fun p=>.func (.func 261) #[] #[.pointer (some ⟨p,0,none⟩)],fun p w=>Whole w p 9 #[strB n]∧N≤p,fun _ _ _ h hg=>⟨hg.whole h.1,h.2⟩⟩
def Zov (N:Nat) (n to:Nm):Fact Grows :=
 ⟨Nat×Nat,(0,0),fun p=>.func (.func 304) #[] #[.pointer (some ⟨p.1,0,none⟩),.pointer (some ⟨p.2,0,none⟩)],fun p w=>Whole w p.1 9 #[strB n]∧Whole w p.2 9 #[strB to]∧N≤p.1∧N≤p.2,fun _ _ _ h hg=>⟨hg.whole h.1,hg.whole h.2.1,h.2.2⟩⟩
section
variable {w:World} {d:Nat} {own:Nat→Prop} {G:Geo} {m:Dk}
theorem Zi4 {w w2:World} (h:DkAt w d own G m) (hg:Grows w w2) (new:Nat→Prop) (hnew:∀ k,new k→w.heap.size≤k∧k < w2.heap.size) {v:Value} {c:Ch} (hc:ChAt w2 (fun k=>own k∨new k) m.made G.loc v c)
 (h2:m.pend.length≤1000000000) (h3:m.names.length≤1000000000) :
 Calls Tryz.prog 188 #[.pointer (some ⟨d,0,none⟩),v] w2 fun e w'=>e=.returned (.tuple #[])∧DkTo w d own w' (m.change c):=by
 have h1:=h.grow hg
 have r2:Z3 w2 (fun k=>own k∨new k) G m:=h1.rest.wider (fun k hk=>.inl hk) fun k hk=>hk.elim (h1.rest.lt k) fun e=>(hnew k e).2
 have hnd:¬ (own d∨new d):=fun e=>e.elim h.free fun e=>by have:=(hnew d e).1;have:=h.top.lt;omega
 refine (Zgh w2 r2 h1.top hnd hc h2 h3).mono ?_
 rintro e w3 ⟨rfl,⟨own3,G3,r3,t3,n3,o3⟩,s3⟩
 refine ⟨rfl,own3,G3,⟨r3,t3,n3⟩,?_,?_⟩
 ·refine ((Zc.grows hg).trans (s3.wider (own':=fun k=>(k=d∨own k)∨w.heap.size≤k) fun k _ hk=>?_)).wider fun k hk h=>h.elim id fun h=>by omega
  rcases hk with e | e | e
  ·exact .inl (.inl e)
  ·exact .inl (.inr e)
  ·exact .inr (hnew k e).1
 ·intro k hk
  rcases o3 k hk with (e | e) | e
  ·exact .inl e
  ·exact .inr (hnew k e).1
  ·exact .inr (Nat.le_trans hg.size e)
theorem Zow (w:World) {n:Nm} (h:DkAt w d own G m) {i:Nat} (hi:i < m.made) {a0 b0 d0:Nat} (ha:Whole w a0 24 #[ptrV d]) (hb:Whole w b0 105 #[ptrV (G.loc i)]) (hd:Whole w d0 9 #[strB n])
 (ho:∀ k,k=a0∨k=b0∨k=d0→k≠d∧¬ own k) (hn:n.length≤1000000) (h2:m.pend.length≤1000000000) (h3:m.names.length≤1000000000) :
 Calls Tryz.prog 193 #[ptrV a0,ptrV b0,ptrV d0] w fun e w'=>e=.returned (.tuple #[])∧DkTo w d own w' (m.doRemove i n):=by
 obtain ⟨A0,c0,hA0,_⟩:=Zp (h.rest.rows i hi)
 have hc:=h.rest.cells i hi
 rw [hA0] at hc
 have HCL:=hid (show ∀ w',Grows w w'→w'.cell? ⟨a0,0,none⟩=some (.pointer (some ⟨d,0,none⟩))∧w'.cell? ⟨b0,0,none⟩=some (.pointer (some ⟨G.loc i,0,none⟩))∧w'.cell? ⟨d,2,none⟩=some (.int .i64 m.used)∧w'.cell? ⟨G.loc i,1,none⟩=some (.slice A0 (m.files i).bytes.length c0)
  from fun w' hg=>⟨hg.cellq ha,hg.cellq hb,hg.cellq h.top,hg.cellq hc⟩)
 have HDK:=hid h
 have HA:=hid (And.intro ha (And.intro hd ho))
 have HB:=hid (And.intro h2 (And.intro h3 hn))
 clear h ha hb hd ho h2 h3 hn hc hA0
 generalize hmd:m.used=us at HCL
 have HMD:=hid hmd
 clear hmd
 generalize hfl:(m.files i).bytes.length=nf at HCL
 have HFL:=hid hfl
 clear hfl
 generalize G.loc i=lf at HCL
 unfold ptrV
 go_enter Tryz.func193,Tryz.ntmps193
 go_wp2_with (fail)
 refine Zf (E:=Grows) 12 [Za (.pointer (some ⟨d,0,none⟩)),Za (.pointer (some ⟨d,0,none⟩)),Za (.pointer (some ⟨d,2,none⟩)),Za (.int .i64 us),Za (.pointer (some ⟨lf,0,none⟩)),Za (.pointer (some ⟨lf,0,none⟩)),Za (.pointer (some ⟨lf,1,none⟩)),Za (.slice A0 nf c0),Za (.int .i64 (nf:Int)),Za (.int .i64 (wrap64 (us - nf))),Za (.pointer (some ⟨d,0,none⟩)),Za (.pointer (some ⟨d,2,none⟩))] mixed (by kernel_rfl) (fun _ _ _=>Grows.trans) (Ze _) ?_
 simp only [List.take_succ_cons,List.take_zero,List.drop_succ_cons,List.drop_zero]
 iterate 8
  refine f_val _ (by rfl) ?_ ?_
  ·intro w' hC;obtain ⟨q1,q2,q3,q4⟩:=HCL.out w' hC;clear hC;go_simp
  simp only [Pu]
 refine f_val _ (by rfl) ?_ ?_
 ·intro w' hC;clear hC;go_simp
 simp only [Pu]
 refine f_val _ (by rfl) ?_ ?_
 ·intro w' hC;clear hC;(go_simp;unfold wrap64;rw [IntKind.wrap_i64])
 simp only [Pu]
 iterate 2
  refine f_val _ (by rfl) ?_ ?_
  ·intro w' hC;obtain ⟨q1,q2,q3,q4⟩:=HCL.out w' hC;clear hC;go_simp
  simp only [Pu]
 refine Zs ?_
 intro w2 hC hks
 have HCw2:=hid hC
 clear hC hks
 have c2:=(HCL.out w2 HCw2.out).2.2.1
 have f2:=(HDK.out.grow HCw2.out).top.free 2
 go_wp2_with (fail)
 obtain ⟨w3,hw3⟩:∃ w3,w2.setCell ⟨d,2,none⟩ (.int .i64 (wrap64 (us - nf)))=w3:=⟨_,rfl⟩
 rw [hw3]
 have hne:∀ k,k=a0∨k=b0∨k=d0→k≠d:=fun k hk=>(HA.out.2.2 k hk).1
 have h3:DkAt w3 d own G { m with used:=wrap64 (us - nf) }:=hw3 ▸ (HDK.out.grow HCw2.out).set 2 _ rfl rfl rfl rfl rfl rfl
 have s3:Zc (fun k=>k=d) w w3:=hw3 ▸ (Zc.grows (own:=fun k=>k=d) HCw2.out).setCell (p:=⟨d,2,none⟩) rfl _
 have ka:Whole w3 a0 24 #[ptrV d]:=HA.out.1.same (s3.same a0 HA.out.1.lt (hne a0 (.inl rfl)))
 have kd:Whole w3 d0 9 #[strB n]:=HA.out.2.1.same (s3.same d0 HA.out.2.1.lt (hne d0 (.inr (.inr rfl))))
 have HC3:=hid (show ∀ w',Grows w3 w'→w'.cell? ⟨a0,0,none⟩=some (.pointer (some ⟨d,0,none⟩))∧w'.cell? ⟨d0,0,none⟩=some (.string ⟨n.toArray⟩) from fun w' hg=>⟨hg.cellq ka,hg.cellq kd⟩)
 have H3:=hid h3
 have S3:=hid s3
 clear h3 s3 ka kd hne hw3 c2 f2
 refine Zf (E:=Grows) 3 [Za (.pointer (some ⟨d,0,none⟩)),Za (.string ⟨n.toArray⟩),Zou w3.heap.size n] mixed (by kernel_rfl) (fun _ _ _=>Grows.trans) (Ze _) ?_
 simp only [List.take_succ_cons,List.take_zero,List.drop_succ_cons,List.drop_zero]
 iterate 2
  refine f_val _ (by rfl) ?_ ?_
  ·intro w' hC;obtain ⟨q1,q2⟩:=HC3.out w' hC;clear hC;go_simp
  simp only [Pu]
 refine Zlz (by rfl) ?_ ?_
 ·intro w' hC _
  refine Zdk (f:=194) (args:=#[.string ⟨n.toArray⟩]) (by clear hC;go_simp) ?_
  refine (Zo2 n w' HB.out.2.2).mono ?_
  rintro e w'' ⟨a,rfl,k1,k3,k5⟩
  exact ⟨k5,a,rfl,k1,Nat.le_trans hC.size k3⟩
 intro a2
 show wpF _ _ _ _ _ _ _ _ (Act.put _ _ (.func (.func 261) #[] #[.pointer (some ⟨a2,0,none⟩)]))
 simp only [Pu]
 refine Zs ?_
 intro w4 hC hks
 have HCw4:=hid hC
 have HF:=hid (Known.at hks 0 rfl)
 clear hC hks
 have hch:ChAt w4 (fun k=>own k∨k=a2) m.made G.loc (.func (.func 261) #[] #[.pointer (some ⟨a2,0,none⟩)]) (.taken n) :=
  ⟨by have:=HB.out.2.2;unfold maxLen;omega,a2,rfl,.inr rfl,HF.out.1⟩
 have HCH:=hid (Zi4 H3.out HCw4.out (fun k=>k=a2) (fun k hk=>hk ▸ ⟨HF.out.2,HF.out.1.lt⟩) hch HB.out.1 HB.out.2.1)
 clear hch
 go_wp2_with (fail)
 refine HCH.out.mono ?_
 rintro e w5 ⟨rfl,h5⟩
 have H5:=hid h5
 clear h5
 go_wp2_with (fail)
 go_end0
 obtain rfl:=HMD.out
 obtain rfl:=HFL.out
 exact ⟨rfl,DkTo.behind S3.out H5.out⟩
theorem Zox (w:World) {n to:Nm} (h:DkAt w d own G m) {a0 b0 d0:Nat} (ha:Whole w a0 24 #[ptrV d]) (hb:Whole w b0 9 #[strB to]) (hd:Whole w d0 9 #[strB n])
 (ho:∀ k,k=a0∨k=b0∨k=d0→k≠d∧¬ own k) (hn:n.length≤1000000) (ht:to.length≤1000000) (h2:m.pend.length≤1000000000) (h3:m.names.length≤1000000000) :
 Calls Tryz.prog 264 #[ptrV a0,ptrV b0,ptrV d0] w fun e w'=>e=.returned (.tuple #[])∧DkTo w d own w' (m.doRename n to):=by
 have c0:w.cell? ⟨a0,0,none⟩=some (.pointer (some ⟨d,0,none⟩)):=ha.cell 0
 have c1:w.cell? ⟨b0,0,none⟩=some (.string ⟨to.toArray⟩):=hb.cell 0
 have c2:w.cell? ⟨d,2,none⟩=some (.int .i64 m.used):=h.cell 2
 have f2:=h.top.free 2
 have HSZ:=hid (Zl2 w h (n:=to) (by unfold maxLen;omega))
 have HDK:=hid h
 have HA:=hid (And.intro ha (And.intro hb (And.intro hd ho)))
 have HB:=hid (And.intro h2 (And.intro h3 (And.intro hn ht)))
 clear h ha hb hd ho h2 h3 hn ht
 generalize hmd:m.used=us at c2
 have HMD:=hid hmd
 clear hmd
 generalize hsz:(m.size to).1=sz at HSZ
 have HSE:=hid hsz
 clear hsz
 generalize (m.size to).2=sb at HSZ
 unfold ptrV
 go_enter Tryz.func264,Tryz.ntmps264
 go_wp2_with (fail)
 refine HSZ.out.mono ?_
 rintro e w2 ⟨rfl,rfl⟩
 clear HSZ
 go_wp2_with (fail)
 obtain ⟨w3,hw3⟩:∃ w3,w.setCell ⟨d,2,none⟩ (.int .i64 (wrap64 (us - sz)))=w3:=⟨_,rfl⟩
 rw [hw3]
 have hne:∀ k,k=a0∨k=b0∨k=d0→k≠d:=fun k hk=>(HA.out.2.2.2 k hk).1
 have h3:DkAt w3 d own G { m with used:=wrap64 (us - sz) }:=hw3 ▸ HDK.out.set 2 _ rfl rfl rfl rfl rfl rfl
 have s3:Zc (fun k=>k=d) w w3:=hw3 ▸ (Zc.refl (fun k=>k=d) w).setCell (p:=⟨d,2,none⟩) rfl _
 have ka:Whole w3 a0 24 #[ptrV d]:=HA.out.1.same (s3.same a0 HA.out.1.lt (hne a0 (.inl rfl)))
 have kb:Whole w3 b0 9 #[strB to]:=HA.out.2.1.same (s3.same b0 HA.out.2.1.lt (hne b0 (.inr (.inl rfl))))
 have kd:Whole w3 d0 9 #[strB n]:=HA.out.2.2.1.same (s3.same d0 HA.out.2.2.1.lt (hne d0 (.inr (.inr rfl))))
 have HC3:=hid (show ∀ w',Grows w3 w'→w'.cell? ⟨a0,0,none⟩=some (.pointer (some ⟨d,0,none⟩))∧w'.cell? ⟨d0,0,none⟩=some (.string ⟨n.toArray⟩)∧w'.cell? ⟨b0,0,none⟩=some (.string ⟨to.toArray⟩) from fun w' hg=>⟨hg.cellq ka,hg.cellq kd,hg.cellq kb⟩)
 have H3:=hid h3
 have S3:=hid s3
 clear h3 s3 ka kb kd hne hw3 c2 f2 c0 c1
 refine Zf (E:=Grows) 4 [Za (.pointer (some ⟨d,0,none⟩)),Za (.string ⟨n.toArray⟩),Za (.string ⟨to.toArray⟩),Zov w3.heap.size n to] mixed (by kernel_rfl) (fun _ _ _=>Grows.trans) (Ze _) ?_
 simp only [List.take_succ_cons,List.take_zero,List.drop_succ_cons,List.drop_zero]
 iterate 3
  refine f_val _ (by rfl) ?_ ?_
  ·intro w' hC;obtain ⟨q1,q2,q3⟩:=HC3.out w' hC;clear hC;go_simp
  simp only [Pu]
 refine Zlz (by rfl) ?_ ?_
 ·intro w' hC _
  refine Zdk (f:=265) (args:=#[.string ⟨n.toArray⟩,.string ⟨to.toArray⟩]) (by clear hC;go_simp) ?_
  refine (Zo3 n to w' HB.out.2.2.1 HB.out.2.2.2).mono ?_
  rintro e w'' ⟨a,b,rfl,k1,k2,k3,k4,k5⟩
  exact ⟨k5,(a,b),rfl,k1,k2,Nat.le_trans hC.size k3,Nat.le_trans hC.size k4⟩
 rintro ⟨a2,b2⟩
 show wpF _ _ _ _ _ _ _ _ (Act.put _ _ (.func (.func 304) #[] #[.pointer (some ⟨a2,0,none⟩),.pointer (some ⟨b2,0,none⟩)]))
 simp only [Pu]
 refine Zs ?_
 intro w4 hC hks
 have HCw4:=hid hC
 have HF:=hid (Known.at hks 0 rfl)
 clear hC hks
 have hch:ChAt w4 (fun k=>own k∨k=a2∨k=b2) m.made G.loc (.func (.func 304) #[] #[.pointer (some ⟨a2,0,none⟩),.pointer (some ⟨b2,0,none⟩)]) (.moved n to) :=
  ⟨by have:=HB.out.2.2.1;unfold maxLen;omega,by have:=HB.out.2.2.2;unfold maxLen;omega,a2,b2,rfl,.inr (.inl rfl),.inr (.inr rfl),HF.out.1,HF.out.2.1⟩
 have HCH:=hid (Zi4 H3.out HCw4.out (fun k=>k=a2∨k=b2) (fun k hk=>by
  rcases hk with rfl | rfl
  ·exact ⟨HF.out.2.2.1,HF.out.1.lt⟩
  ·exact ⟨HF.out.2.2.2,HF.out.2.1.lt⟩) hch HB.out.1 HB.out.2.1)
 clear hch
 go_wp2_with (fail)
 refine HCH.out.mono ?_
 rintro e w5 ⟨rfl,h5⟩
 have H5:=hid h5
 clear h5
 go_wp2_with (fail)
 go_end0
 obtain rfl:=HMD.out
 obtain rfl:=HSE.out
 exact ⟨rfl,DkTo.behind S3.out H5.out⟩
end
end Go.Proofs.YtkelafkbmnjpeaaGreat
set_option maxHeartbeats 4000000
set_option maxRecDepth 100000
namespace Go.Proofs.YtkelafkbmnjpeaaGreat
open Go.Lib (hid)
open Go.RowKit Go.Maps Go.WideMaps
attribute [local irreducible] Go.wpQuiet
section
variable {w:World} {d:Nat} {own:Nat→Prop} {G:Geo} {m:Dk}
theorem Zer {cs:List Ch} {l:Dir} {j:Nat} {c:Ch} (h:cs[j]?=some c):redo (cs.take (j+1)) l=c.on (redo (cs.take j) l):=by
 unfold redo
 have hj:j < cs.length:=(List.getElem?_eq_some_iff.1 h).1
 rw [List.take_add_one,h]
 simp
theorem Zct (n:Nm) (f:Nat) (l:Dir):(Dir.put n f l).length≤l.length+1:=by
 have h1:∀ (x:Nm×Nat) (l:Dir),(Dir.ins x l).length=l.length+1:=fun x l=>by
  induction l with
  | nil=>rfl
  | cons y r ih=>unfold Dir.ins;split <;> simp [*]
 have h2:(Dir.del n l).length≤l.length:=List.length_filter_le _ _
 unfold Dir.put
 rw [h1]
 omega
theorem Zd9 (c:Ch) (l:Dir):(c.on l).length≤l.length+1:=by
 cases c with
 | made n f=>exact Zct n f l
 | taken n=>exact Nat.le_trans (List.length_filter_le _ _) (Nat.le_succ _)
 | moved n to =>
   simp only [Ch.on]
   split
   ·exact Nat.le_trans (Zct _ _ _) (Nat.succ_le_succ (List.length_filter_le _ _))
   ·exact Nat.le_succ _
theorem redo_short:∀ (cs:List Ch) (l:Dir) {n:Nat},l.length+cs.length≤n→(redo cs l).length≤n
 | [],l,n,h=>by simpa [redo] using h
 | c :: cs,l,n,h=>by
   have:=Zd9 c l
   show (redo cs (c.on l)).length≤n
   refine redo_short cs _ ?_
   simp only [List.length_cons] at h
   omega
theorem Zkk {w w':World} {n:Nat} {l:Dir} (h:DkAt w d own G m) (hn:OwnsN w' m.made G.loc G.kb n l) (ht:w.mapTurned w' G.kb):DkAt w' d own G { m with kept:=l }:=by
 have hsz:w.heap.size≤w'.heap.size:=ht.grown.size
 refine ⟨h.rest.keptN hn (fun k hk hne=>ht.grown.block k hk fun e=>hne (by injection e)) hsz,?_,h.free⟩
 exact h.top.same (ht.grown.block d h.top.lt fun e=>h.free (by injection e with e;exact e ▸ h.rest.ok))
theorem Zrz (h:DkAt w d own G m) {A:Option Addr} {c:Nat} (hA:G.pv=.slice A m.pend.length c) {j:Nat} (hj:j < m.pend.length):∃ ad v x,A=some ad∧w.cell? (ad.add j)=some v∧m.pend[j]?=some x∧ChAt w own m.made G.loc v x∧ad.block < w.heap.size:=by
 have hr:=h.rest.pend
 rw [hA] at hr
 have hrow:=Row.owned hr
 obtain ⟨v,hv⟩:∃ v,G.pvs[j]?=some v:=⟨G.pvs[j]'(by have:=h.rest.nlen;omega),by simp⟩
 obtain ⟨x,hx⟩:∃ x,m.pend[j]?=some x:=⟨m.pend[j],by simp⟩
 obtain ⟨ad,he,hb,hc⟩:=Row.spot hrow j v hv
 exact ⟨ad,v,x,he,hc,hx,h.rest.chs j v x hv hx,hb⟩
theorem Zm6 (w:World) (h:DkAt w d own G m) {k:Nat} (hk:k≤m.pend.length) (h1:m.pend.length≤1000000000) (h2:m.kept.length≤1000000000) :
 Calls Tryz.prog 54 #[.pointer (some ⟨d,0,none⟩),.int .i64 (k:Int)] w fun e w'=>e=.returned (.tuple #[])∧DkTo w d own w' (m.keep k):=by
 obtain ⟨A,c,hA,hbare⟩:=Zp h.rest.pend
 have c5:w.cell? ⟨d,5,none⟩=some (.slice A m.pend.length c):=by rw [←hA];exact h.cell 5
 have hcap:m.pend.length≤c:=by
  have:=h.rest.pend
  rw [hA] at this
  rcases this.2 with ⟨e,e2⟩ | ⟨g,cap,cur,e,_,_,e2,_⟩
  ·injection e with _ e _;omega
  ·injection e with _ _ e;omega
 have H:=hid (And.intro h hA)
 have hdlt:=h.top.lt
 clear h hA
 generalize hN:m.pend.length=N at *
 have HN:=hid hN
 clear hN
 have HB:=hid (And.intro hdlt hbare)
 clear hdlt hbare
 have hk1:(k:Int)≤(c:Int):=by omega
 have hk0:(0:Int)≤(k:Int):=by omega
 go_enter Tryz.func54,Tryz.ntmps54
 go_wp2_with (fail)
 go_loopw [13] (fun vi wr=>∃ (j:Nat),j≤k∧vi=.int .i64 (j:Int)∧Hid (DkAt wr d own G { m with kept:=redo (m.pend.take j) m.kept })∧Hid (Zc (fun x=>x=G.kb) w wr)) (fun i _=>k - (intOf i).toNat)
 case atStart=>exact ⟨0,by omega,rfl,hid (by exact H.out.1),hid (Zc.refl _ _)⟩
 case round =>
  obtain ⟨j,hj,rfl,HD,HS⟩:=hrel
  by_cases hlt:j < k
  ·have hlt':(j:Int) < (k:Int):=by omega
   obtain ⟨ad,v,x,rfl,hv,hx,hch,hab⟩:=Zrz HD.out (A:=A) (c:=c) (by rw [H.out.2,←HN.out]) (show j < m.pend.length by rw [HN.out];omega)
   have c4:wr.cell? ⟨d,4,none⟩=some (.map (some G.kb)):=HD.out.cell 4
   have HX:=hid hx
   have hlen:(redo (m.pend.take j) m.kept).length≤2000000000:=redo_short _ _ (by have:=HN.out;rw [List.length_take];omega)
   have hk:=HD.out.rest.kept
   have hin:=HD.out.rest.inj
   dsimp only at hk hin hch
   have HAB:=hid hab
   clear hx hab
   have HC:=hid hch
   clear hch
   cases x with
   | taken n =>
     obtain ⟨q1,a,rfl,_,hwa⟩:=HC.out
     have HM:=hid (Zi6 wr hk q1 hwa)
     clear hwa hk hin HC
     unfold ptrV at *
     go_wp2_with (first | (go_at_call 261;refine HM.out.mono ?_;rintro e w1 ⟨rfl,hn1,ht1⟩;have HN1:=hid hn1;have HT1:=hid ht1;clear hn1 ht1))
     go_roundw
     case rel =>
      refine ⟨j+1,by omega,by go_num,hid ?_,hid ?_⟩
      ·have:=Zkk HD.out HN1.out HT1.out
       rw [Zer HX.out]
       exact this
      ·exact HS.out.grown HT1.out.grown fun g e=>by injection e with e;exact e.symm
     case measure=>simp [intOf];omega
   | made n f =>
     obtain ⟨q1,q2,a,b,rfl,_,_,hwb,hwa⟩:=HC.out
     have HM:=hid (Zl0 wr hin hk (by unfold maxLen;omega) q1 q2 hwa hwb)
     clear hwa hwb hk hin HC
     unfold ptrV at *
     go_wp2_with (first | (go_at_call 260;refine HM.out.mono ?_;rintro e w1 ⟨rfl,hn1,ht1⟩;have HN1:=hid hn1;have HT1:=hid ht1;clear hn1 ht1))
     go_roundw
     case rel =>
      refine ⟨j+1,by omega,by go_num,hid ?_,hid ?_⟩
      ·have:=Zkk HD.out HN1.out HT1.out
       rw [Zer HX.out]
       exact this
      ·exact HS.out.grown HT1.out.grown fun g e=>by injection e with e;exact e.symm
     case measure=>simp [intOf];omega
   | moved n to =>
     obtain ⟨q1,q2,a,b,rfl,_,_,hwa,hwb⟩:=HC.out
     have HM:=hid (Zi7 wr hin hk (by unfold maxLen;omega) q1 q2 hwa hwb)
     clear hwa hwb hk hin HC
     unfold ptrV at *
     go_wp2_with (first | (go_at_call 304;refine HM.out.mono ?_;rintro e w1 ⟨rfl,hn1,ht1⟩;have HN1:=hid hn1;have HT1:=hid ht1;clear hn1 ht1))
     go_roundw
     case rel =>
      refine ⟨j+1,by omega,by go_num,hid ?_,hid ?_⟩
      ·have:=Zkk HD.out HN1.out HT1.out
       rw [Zer HX.out]
       exact this
      ·exact HS.out.grown HT1.out.grown fun g e=>by injection e with e;exact e.symm
     case measure=>simp [intOf];omega
  ·obtain rfl:j=k:=by omega
   have c5:wr.cell? ⟨d,5,none⟩=some G.pv:=HD.out.cell 5
   have f5:=HD.out.top.free 5
   go_wp2_with (fail)
   go_end0
   refine ⟨rfl,own,{ G with pv:=.slice none 0 0,pvs:=[] },⟨?_,?_,HD.out.free⟩,?_,fun k hk=>.inl hk⟩
   ·have h1:Z3 (wr.setCell ⟨d,5,none⟩ (.slice none 0 0)) own G { m with kept:=redo (m.pend.take j) m.kept } :=
     HD.out.rest.stay (fun k hk=>Below.heap_setCell _ _ _ _ fun e=>HD.out.free (by have e:k=d:=e;exact e ▸ hk)) (by simp [World.setCell])
    exact h1.pends (pv:=.slice none 0 0) (pvs:=[]) (cs:=[]) ⟨rfl,.inl ⟨rfl,rfl⟩⟩ (fun k hk=>by cases hk) (Nat.le_refl _) (fun _ _ _=>rfl) (fun i v c h1 h2=>by simp at h1)
   ·exact HD.out.top.put 5 _
   ·exact (HS.out.wider (own':=fun x=>x=d∨own x) fun x _ e=>.inr (e ▸ H.out.1.rest.ok)).setCell (p:=⟨d,5,none⟩) (.inl rfl) _
end
end Go.Proofs.YtkelafkbmnjpeaaGreat
