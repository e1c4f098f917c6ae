/-
  Texts that the statements lean on, one behind the other.
-/
import Derived.Test.YtkelafkbmnjpeaaGreatMG06
set_option linter.unusedSimpArgs false
set_option linter.unusedVariables false
set_option maxHeartbeats 8000000
set_option maxRecDepth 100000
namespace Go.Proofs.YtkelafkbmnjpeaaGreat
open Go.Lib (hid)
open Go.RowKit Go.Maps Go.WideMaps
attribute [local irreducible] Go.wpQuiet
section
variable {w:World} {d:Nat} {own:Nat→Prop} {G:Geo} {m:Dk}
theorem Zm4 (w:World) (h:DkAt w d own G m) {a0:Nat} (ha:Whole w a0 24 #[ptrV d]) (h1:m.pend.length≤1000000000) (h2:m.kept.length≤1000000000) :
 Calls Tryz.prog 266 #[ptrV a0] w fun e w'=>e=.returned (.tuple #[])∧DkTo w d own w' (m.keep m.pend.length):=by
 obtain ⟨A,c,hA,_⟩:=Zp h.rest.pend
 have HCL:=hid (show ∀ w',Grows w w'→w'.cell? ⟨a0,0,none⟩=some (.pointer (some ⟨d,0,none⟩))∧w'.cell? ⟨d,5,none⟩=some (.slice A m.pend.length c) from fun w' hg=>⟨hg.cellq ha,by rw [←hA];exact hg.cellq h.top⟩)
 have HK:=hid (fun w2 hg=>Zm6 (k:=m.pend.length) w2 (DkAt.grow h hg) (Nat.le_refl _) h1 h2)
 have HDK:=hid h
 clear h ha h1 h2 hA
 generalize m.pend.length=N at *
 unfold ptrV
 go_enter Tryz.func266,Tryz.ntmps266
 go_wp2_with (fail)
 refine Zf (E:=Grows) 6 [Za (.pointer (some ⟨d,0,none⟩)),Za (.pointer (some ⟨d,0,none⟩)),Za (.pointer (some ⟨d,0,none⟩)),Za (.pointer (some ⟨d,5,none⟩)),Za (.slice A N c),Za (.int .i64 (N:Int))] mixed (by kernel_rfl) (fun _ _ _=>Grows.trans) (Ze _) ?_
 simp only [List.take_succ_cons,List.take_zero,List.drop_succ_cons,List.drop_zero]
 iterate 5
  refine f_val _ (by rfl) ?_ ?_
  ·intro w' hC;obtain ⟨q1,q2⟩:=HCL.out w' hC;clear hC;go_simp
  simp only [Pu]
 refine f_val _ (by rfl) ?_ ?_
 ·intro w' hC;clear hC;go_simp
 simp only [Pu]
 refine Zs ?_
 intro w2 hC hks
 have HCw2:=hid hC
 clear hC hks
 go_wp2_with (fail)
 refine (HK.out w2 HCw2.out).mono ?_
 rintro e w5 ⟨rfl,h5⟩
 have H5:=hid h5
 clear h5 HK
 go_wp2_with (fail)
 go_end0
 refine ⟨rfl,?_⟩
 obtain ⟨own',G',k1,k2,k3⟩:=H5.out
 exact ⟨own',G',k1,(Zc.grows HCw2.out).trans k2,fun k hk=>(k3 k hk).imp id fun h=>Nat.le_trans HCw2.out.size h⟩
theorem Did.behind {w w1 w':World} {r:Dk×Int} {e:Ending} (hg:Grows w w1) (h:Did w1 d own r e w'):Did w d own r e w':=by
 obtain ⟨h1,own',G',k1,k2,k3⟩:=h
 exact ⟨h1,own',G',k1,(Zc.grows hg).trans k2,fun k hk=>(k3 k hk).imp id fun h=>Nat.le_trans hg.size h⟩
theorem Did.none {w w':World} (h:DkAt w d own G m) (hg:Grows w w') (e:Int):Did w d own (m,e) (.returned (.int .i64 e)) w':=⟨rfl,own,G,h.grow hg,Zc.grows hg,fun k hk=>.inl hk⟩
structure DkFit (m:Dk):Prop where
 cut:-1≤m.cut∧m.cut≤9223372036854775807
 fail:-1≤m.fail∧m.fail≤9223372036854775807
 made:m.made≤1000000000
 pend:m.pend.length≤1000000000
 names:m.names.length≤1000000000
 kept:m.kept.length≤1000000000
 bytes:∀ i,i < m.made→(m.files i).bytes.length≤1000000000∧(m.files i).kept≤(m.files i).bytes.length
theorem Zkj (w:World) (h:DkAt w d own G m) (hF:DkFit m):Calls Tryz.prog 203 #[.pointer (some ⟨d,0,none⟩)] w fun e w'=>Did w d own m.syncDir e w':=by
 have hg:Grows w (w.alloc (.cells #[.pointer (some ⟨d,0,none⟩)] 24)):=Zb _ _
 have ha:Whole (w.alloc (.cells #[.pointer (some ⟨d,0,none⟩)] 24)) w.heap.size 24 #[ptrV d]:=Whole.made _ _ _
 have HT:=hid (Zas _ (h.grow hg) hF.cut hF.fail 266 #[] #[.pointer (some ⟨w.heap.size,0,none⟩)] (fun args w=>by kernel_rfl) (fun m=>m.keep m.pend.length)
  fun _ hc hf w1 h1 s1=>Zm4 w1 h1 (ha.same (s1.same _ ha.lt (by have:=h.top.lt;omega))) hF.pend hF.kept)
 clear h hF ha hg
 go_enter Tryz.func203,Tryz.ntmps203
 go_wp2_with (fail)
 refine HT.out.mono ?_
 rintro e w2 ⟨rfl,h2⟩
 have H2:=hid h2
 clear h2 HT
 go_wp2_with (fail)
 go_ret
 exact Did.behind (Zb _ _) ⟨rfl,H2.out⟩
theorem Zm5 (w:World) (n:Nm) (h:DkAt w d own G m) (hF:DkFit m) (hn:n.length≤1000000):Calls Tryz.prog 129 #[.pointer (some ⟨d,0,none⟩),.string ⟨n.toArray⟩] w fun e w'=>Did w d own (m.create n) e w':=by
 have hg:Grows w ((w.alloc (.cells #[.pointer (some ⟨d,0,none⟩)] 24)).alloc (.cells #[.string ⟨n.toArray⟩] 9)):=(Zb _ _).trans (Zb _ _)
 have ha:Whole ((w.alloc (.cells #[.pointer (some ⟨d,0,none⟩)] 24)).alloc (.cells #[.string ⟨n.toArray⟩] 9)) w.heap.size 24 #[ptrV d]:=(Whole.made _ _ _).alloc _
 have hb:Whole ((w.alloc (.cells #[.pointer (some ⟨d,0,none⟩)] 24)).alloc (.cells #[.string ⟨n.toArray⟩] 9)) (w.heap.size+1) 9 #[strB n]:=by
  have:=Whole.made (w.alloc (.cells #[.pointer (some ⟨d,0,none⟩)] 24)) 9 #[strB n]
  rwa [World.size_alloc] at this
 have hnm:n.length≤maxLen:=by unfold maxLen;omega
 have h0:=h.grow hg
 have HT:=hid (fun w3 (g3:Grows ((w.alloc (.cells #[.pointer (some ⟨d,0,none⟩)] 24)).alloc (.cells #[.string ⟨n.toArray⟩] 9)) w3)=>Zas w3 (h0.grow g3) hF.cut hF.fail 187 #[] #[.pointer (some ⟨w.heap.size,0,none⟩),.pointer (some ⟨w.heap.size+1,0,none⟩)] (fun args w=>by kernel_rfl) (Dk.doCreate n)
  fun _ hc hf w1 h1 s1=>by
   have hl:=h.top.lt
   refine Zo0 w1 h1 ((g3.whole ha).same (s1.same _ (g3.whole ha).lt (by omega))) ((g3.whole hb).same (s1.same _ (g3.whole hb).lt (by omega))) ?_ hn hF.made hF.pend hF.names
   rintro k (rfl | rfl)
   ·exact ⟨by omega,fun e=>by have:=h.rest.lt _ e;omega⟩
   ·exact ⟨by omega,fun e=>by have:=h.rest.lt _ e;omega⟩)
 have c9:((w.alloc (.cells #[.pointer (some ⟨d,0,none⟩)] 24)).alloc (.cells #[.string ⟨n.toArray⟩] 9)).cell? ⟨d,9,none⟩=some (.bool m.down):=h0.cell 9
 have HDK:=hid (And.intro h hg)
 unfold Dk.create
 cases hd:m.down with
 | true =>
   rw [hd] at c9
   rw [if_pos rfl]
   clear h hF ha hb hn hnm h0 HT hg hd
   go_enter Tryz.func129,Tryz.ntmps129
   go_wp2
   go_ret
   exact Did.none HDK.out.1 HDK.out.2 82
 | false =>
 rw [hd] at c9
 rw [if_neg (by decide)]
 have HR:=hid (Zi8 n)
 cases hr:right n with
 | false =>
   rw [hr] at HR
   rw [if_pos rfl]
   clear h hF ha hb hn hnm h0 HT hg hd hr
   go_enter Tryz.func129,Tryz.ntmps129
   go_wp2_with (fail)
   refine (HR.out _).mono ?_
   rintro e w2 ⟨rfl,rfl⟩
   go_wp2_with (fail)
   go_ret
   exact Did.none HDK.out.1 HDK.out.2 1
 | true =>
 rw [hr] at HR
 rw [if_neg (by decide)]
 have HL:=hid (show ∀ w',Grows ((w.alloc (.cells #[.pointer (some ⟨d,0,none⟩)] 24)).alloc (.cells #[.string ⟨n.toArray⟩] 9)) w'→(Instr.lookup 85 (.map (some G.nb)) (.string ⟨n.toArray⟩) false).run Tryz.prog w'=.ok (fileV G.loc m.names n) w' ∧
  w'.cell? ⟨d,3,none⟩=some (.map (some G.nb))∧w'.cell? ⟨w.heap.size,0,none⟩=some (.pointer (some ⟨d,0,none⟩))∧w'.cell? ⟨w.heap.size+1,0,none⟩=some (.string ⟨n.toArray⟩) from fun w' hg'=>⟨(h0.grow hg').look1 hnm,hg'.cellq h0.top,hg'.cellq ha,hg'.cellq hb⟩)
 have HLT:=hid (fun f=>h.find_lt (f:=f) hnm)
 clear ha hb hn hnm hF
 cases hf:Dir.find n m.names with
 | some f =>
   rw [Zb8 hf] at HL
   rw [if_pos (show (some f).isSome=true from rfl)]
   unfold ptrV at HL
   clear h h0 HT hg hd hr hf
   go_enter Tryz.func129,Tryz.ntmps129
   go_wp2_with (fail)
   refine (HR.out _).mono ?_
   rintro e w2 ⟨rfl,rfl⟩
   go_wp2_with (fail)
   refine Yc mixed (by kernel_rfl) ?_
   iterate 8 (refine q_op' (v:=?_) (a':=?_) (by rfl) ?_ ?_ ?_
              rotate_left 2
              ·intro w' hC
               obtain ⟨z0,z1,z2,z3⟩:=HL.out w' hC
               clear hC
               go_simp
               try with_reducible rfl
              ·simp only [Pu]
               try rfl)
   refine wpQuiet_nil ?_
   intro w3 hC
   have HCw3:=hid hC
   clear hC
   go_wp2_with (fail)
   go_ret
   exact Did.none HDK.out.1 (HDK.out.2.trans HCw3.out) 4
 | none =>
 rw [Zat hf] at HL
 rw [if_neg (by decide)]
 have HM:=hid h0.rest.names
 by_cases hlen:4096≤m.names.length
 ·rw [if_pos hlen]
  have d1:decide ((m.names.length:Int)≥4096)=true:=decide_eq_true (by omega)
  clear h h0 HT hg hd hr hf hlen
  generalize hnl:m.names.length=nl at *
  have HNL:=hid hnl
  clear hnl
  go_enter Tryz.func129,Tryz.ntmps129
  go_wp2_with (fail)
  refine (HR.out _).mono ?_
  rintro e w2 ⟨rfl,rfl⟩
  go_wp2_with (fail)
  refine Yc mixed (by kernel_rfl) ?_
  iterate 8 (refine q_op' (v:=?_) (a':=?_) (by rfl) ?_ ?_ ?_
             rotate_left 2
             ·intro w' hC
              obtain ⟨z0,z1,z2,z3⟩:=HL.out w' hC
              clear hC
              go_simp
              try with_reducible rfl
             ·simp only [Pu]
              try rfl)
  refine wpQuiet_nil ?_
  intro w3 hC
  have HCw3:=hid hC
  clear hC
  obtain ⟨_,z1,z2,z3⟩:=HL.out w3 HCw3.out
  have hm3:Zdl w3 m.made G.loc G.nb m.names:=Yp HM.out (HCw3.out.block _ (World.ownsMap.lt HM.out))
  have HLE:=hid (fun ty=>World.ownsMap.len hm3 Tryz.underlying85 ty)
  rw [Zb9,HNL.out] at HLE
  have hle:=HLE.out
  clear hm3 HLE
  go_wp2_with (fail)
  go_ret
  exact Did.none HDK.out.1 (HDK.out.2.trans HCw3.out) 2
 ·rw [if_neg hlen]
  have d1:decide ((m.names.length:Int)≥4096)=false:=decide_eq_false (by omega)
  clear h h0 hg hd hr hf hlen
  generalize hnl:m.names.length=nl at *
  have HNL:=hid hnl
  clear hnl
  go_enter Tryz.func129,Tryz.ntmps129
  go_wp2_with (fail)
  refine (HR.out _).mono ?_
  rintro e w2 ⟨rfl,rfl⟩
  go_wp2_with (fail)
  refine Yc mixed (by kernel_rfl) ?_
  iterate 8 (refine q_op' (v:=?_) (a':=?_) (by rfl) ?_ ?_ ?_
             rotate_left 2
             ·intro w' hC
              obtain ⟨z0,z1,z2,z3⟩:=HL.out w' hC
              clear hC
              go_simp
              try with_reducible rfl
             ·simp only [Pu]
              try rfl)
  refine wpQuiet_nil ?_
  intro w3 hC
  have HCw3:=hid hC
  clear hC
  obtain ⟨_,z1,z2,z3⟩:=HL.out w3 HCw3.out
  have hm3:Zdl w3 m.made G.loc G.nb m.names:=Yp HM.out (HCw3.out.block _ (World.ownsMap.lt HM.out))
  have HLE:=hid (fun ty=>World.ownsMap.len hm3 Tryz.underlying85 ty)
  rw [Zb9,HNL.out] at HLE
  have hle:=HLE.out
  clear hm3 HLE
  go_wp2_with (fail)
  refine (HT.out w3 HCw3.out).mono ?_
  rintro e w4 ⟨rfl,h4⟩
  have H4:=hid h4
  clear h4 HT
  go_wp2_with (fail)
  go_ret
  exact Did.behind (HDK.out.2.trans HCw3.out) ⟨rfl,H4.out⟩
end
end Go.Proofs.YtkelafkbmnjpeaaGreat
set_option maxHeartbeats 8000000
set_option maxRecDepth 100000
namespace Go.Proofs.YtkelafkbmnjpeaaGreat
open Go.Lib (hid)
open Go.RowKit Go.Maps Go.WideMaps
attribute [local irreducible] Go.wpQuiet
section
variable {w:World} {d:Nat} {own:Nat→Prop} {G:Geo} {m:Dk}
theorem Zbj (w:World) {n:Nm} (h:DkAt w d own G m) (hn:n.length≤maxLen) (hd:m.down=true):Calls Tryz.prog 124 #[.pointer (some ⟨d,0,none⟩),.string ⟨n.toArray⟩] w fun e w'=>e=.returned (.tuple #[.pointer none,.int .i64 82])∧w=w':=by
 have:=Zhr w h hn
 rwa [hd] at this
theorem Zbk (w:World) {n:Nm} (h:DkAt w d own G m) (hn:n.length≤maxLen) (hd:m.down=false) (hf:Dir.find n m.names=none):Calls Tryz.prog 124 #[.pointer (some ⟨d,0,none⟩),.string ⟨n.toArray⟩] w fun e w'=>e=.returned (.tuple #[.pointer none,.int .i64 3])∧w=w':=by
 have:=Zhr w h hn
 rw [hd,hf,Zat hf] at this
 exact this
theorem Zbl (w:World) {n:Nm} {f:Nat} (h:DkAt w d own G m) (hn:n.length≤maxLen) (hd:m.down=false) (hf:Dir.find n m.names=some f):Calls Tryz.prog 124 #[.pointer (some ⟨d,0,none⟩),.string ⟨n.toArray⟩] w fun e w'=>e=.returned (.tuple #[.pointer (some ⟨G.loc f,0,none⟩),.int .i64 0])∧w=w':=by
 have:=Zhr w h hn
 rw [hd,hf,Zb8 hf] at this
 exact this
theorem Zry (w:World) (n:Nm) (h:DkAt w d own G m) (hF:DkFit m) (hn:n.length≤maxLen):Calls Tryz.prog 72 #[.pointer (some ⟨d,0,none⟩),.string ⟨n.toArray⟩] w fun e w'=>Did w d own (m.sync n) e w':=by
 have HDK:=hid h
 unfold Dk.sync
 cases hd:m.down with
 | true =>
   have HFI:=hid (Zbj w h hn hd)
   rw [if_pos rfl]
   clear h hF hn hd
   go_enter Tryz.func72,Tryz.ntmps72
   go_wp2_with (fail)
   refine HFI.out.mono ?_
   rintro e w2 ⟨rfl,rfl⟩
   go_wp2_with (fail)
   go_ret
   exact Did.none HDK.out (Grows.refl _) 82
 | false =>
 rw [if_neg (by decide)]
 cases hf:Dir.find n m.names with
 | none =>
   have HFI:=hid (Zbk w h hn hd hf)
   dsimp only
   clear h hF hn hd hf
   go_enter Tryz.func72,Tryz.ntmps72
   go_wp2_with (fail)
   refine HFI.out.mono ?_
   rintro e w2 ⟨rfl,rfl⟩
   go_wp2_with (fail)
   go_ret
   exact Did.none HDK.out (Grows.refl _) 3
 | some f =>
   have HFI:=hid (Zbl w h hn hd hf)
   have hlt:=h.find_lt hn hf
   have HT:=hid (Zas w h hF.cut hF.fail 102 #[.pointer (some ⟨G.loc f,0,none⟩)] #[] (fun args w=>by kernel_rfl) (Dk.doSync f) fun _ hc hx w1 h1 s1=>Zug w1 h1 hlt)
   dsimp only
   clear h hF hn hd hf hlt
   go_enter Tryz.func72,Tryz.ntmps72
   go_wp2_with (fail)
   refine HFI.out.mono ?_
   rintro e w2 ⟨rfl,rfl⟩
   go_wp2_with (fail)
   refine HT.out.mono ?_
   rintro e w4 ⟨rfl,h4⟩
   have H4:=hid h4
   clear h4 HT
   go_wp2_with (fail)
   go_ret
   exact ⟨rfl,H4.out⟩
theorem Zm2 (w:World) (n:Nm) (h:DkAt w d own G m) (hF:DkFit m) (hn:n.length≤1000000):Calls Tryz.prog 133 #[.pointer (some ⟨d,0,none⟩),.string ⟨n.toArray⟩] w fun e w'=>Did w d own (m.remove n) e w':=by
 have hg:Grows w ((w.alloc (.cells #[.pointer (some ⟨d,0,none⟩)] 24)).alloc (.cells #[.string ⟨n.toArray⟩] 9)):=(Zb _ _).trans (Zb _ _)
 have ha:Whole ((w.alloc (.cells #[.pointer (some ⟨d,0,none⟩)] 24)).alloc (.cells #[.string ⟨n.toArray⟩] 9)) w.heap.size 24 #[ptrV d]:=(Whole.made _ _ _).alloc _
 have hb:Whole ((w.alloc (.cells #[.pointer (some ⟨d,0,none⟩)] 24)).alloc (.cells #[.string ⟨n.toArray⟩] 9)) (w.heap.size+1) 9 #[strB n]:=by
  have:=Whole.made (w.alloc (.cells #[.pointer (some ⟨d,0,none⟩)] 24)) 9 #[strB n]
  rwa [World.size_alloc] at this
 have hnm:n.length≤maxLen:=by unfold maxLen;omega
 have h0:=h.grow hg
 have HDK:=hid (And.intro h hg)
 unfold Dk.remove
 cases hd:m.down with
 | true =>
   have HFI:=hid (Zbj _ h0 hnm hd)
   rw [if_pos rfl]
   clear h hF ha hb hn hnm h0 hg hd
   go_enter Tryz.func133,Tryz.ntmps133
   go_wp2_with (fail)
   refine HFI.out.mono ?_
   rintro e w2 ⟨rfl,rfl⟩
   go_wp2_with (fail)
   go_ret
   exact Did.none HDK.out.1 (HDK.out.2.trans (Zb _ _)) 82
 | false =>
 rw [if_neg (by decide)]
 cases hf:Dir.find n m.names with
 | none =>
   have HFI:=hid (Zbk _ h0 hnm hd hf)
   dsimp only
   clear h hF ha hb hn hnm h0 hg hd hf
   go_enter Tryz.func133,Tryz.ntmps133
   go_wp2_with (fail)
   refine HFI.out.mono ?_
   rintro e w2 ⟨rfl,rfl⟩
   go_wp2_with (fail)
   go_ret
   exact Did.none HDK.out.1 (HDK.out.2.trans (Zb _ _)) 3
 | some f =>
   have HFI:=hid (Zbl _ h0 hnm hd hf)
   have hlt:=h.find_lt hnm hf
   have HT:=hid (fun w3 (g3:Grows ((w.alloc (.cells #[.pointer (some ⟨d,0,none⟩)] 24)).alloc (.cells #[.string ⟨n.toArray⟩] 9)) w3) (hfc:Whole w3 (w.heap.size+1+1) 105 #[ptrV (G.loc f)])=>Zas w3 (h0.grow g3) hF.cut hF.fail 193 #[] #[.pointer (some ⟨w.heap.size,0,none⟩),.pointer (some ⟨w.heap.size+1+1,0,none⟩),.pointer (some ⟨w.heap.size+1,0,none⟩)] (fun args w=>by kernel_rfl) (Dk.doRemove f n)
    fun _ hc hx w1 h1 s1=>by
     have hl:=h.top.lt
     refine Zow w1 h1 hlt ((g3.whole ha).same (s1.same _ (g3.whole ha).lt (by omega))) (hfc.same (s1.same _ hfc.lt (by omega))) ((g3.whole hb).same (s1.same _ (g3.whole hb).lt (by omega))) ?_ hn hF.pend hF.names
     rintro k (rfl | rfl | rfl)
     ·exact ⟨by omega,fun e=>by have:=h.rest.lt _ e;omega⟩
     ·exact ⟨by omega,fun e=>by have:=h.rest.lt _ e;omega⟩
     ·exact ⟨by omega,fun e=>by have:=h.rest.lt _ e;omega⟩)
   have WFC:Whole (((w.alloc (.cells #[.pointer (some ⟨d,0,none⟩)] 24)).alloc (.cells #[.string ⟨n.toArray⟩] 9)).alloc (.cells #[.pointer (some ⟨G.loc f,0,none⟩)] 105)) (w.heap.size+1+1) 105 #[ptrV (G.loc f)]:=by
    have:=Whole.made ((w.alloc (.cells #[.pointer (some ⟨d,0,none⟩)] 24)).alloc (.cells #[.string ⟨n.toArray⟩] 9)) 105 #[ptrV (G.loc f)]
    rwa [World.size_alloc,World.size_alloc] at this
   have HWF:=hid WFC
   dsimp only
   clear h hF ha hb hn hnm h0 hg hd hf hlt WFC
   go_enter Tryz.func133,Tryz.ntmps133
   go_wp2_with (fail)
   refine HFI.out.mono ?_
   rintro e w2 ⟨rfl,rfl⟩
   go_wp2_with (fail)
   refine (HT.out _ (Zb _ _) HWF.out).mono ?_
   rintro e w4 ⟨rfl,h4⟩
   have H4:=hid h4
   clear h4 HT
   go_wp2_with (fail)
   go_ret
   exact Did.behind (HDK.out.2.trans (Zb _ _)) ⟨rfl,H4.out⟩
theorem Zm3 (w:World) (n:Nm) {A:Option Addr} {nb cb:Nat} {bs:List UInt8} (h:DkAt w d own G m) (hF:DkFit m) (hn:n.length≤maxLen) (hs:Sl w A nb cb bs) (hoff:∀ ad,A=some ad→bs≠[]→ad.block≠d∧¬ own ad.block) (hnb:nb≤1000000000) :
 Calls Tryz.prog 130 #[.pointer (some ⟨d,0,none⟩),.string ⟨n.toArray⟩,.slice A nb cb] w fun e w'=>Did w d own (m.append n bs) e w':=by
 have hg:Grows w ((w.alloc (.cells #[.pointer (some ⟨d,0,none⟩)] 24)).alloc (.cells #[.slice A nb cb] 37)):=(Zb _ _).trans (Zb _ _)
 have ha:Whole ((w.alloc (.cells #[.pointer (some ⟨d,0,none⟩)] 24)).alloc (.cells #[.slice A nb cb] 37)) w.heap.size 24 #[ptrV d]:=(Whole.made _ _ _).alloc _
 have hb:Whole ((w.alloc (.cells #[.pointer (some ⟨d,0,none⟩)] 24)).alloc (.cells #[.slice A nb cb] 37)) (w.heap.size+1) 37 #[.slice A nb cb]:=by
  have:=Whole.made (w.alloc (.cells #[.pointer (some ⟨d,0,none⟩)] 24)) 37 #[.slice A nb cb]
  rwa [World.size_alloc] at this
 have h0:=h.grow hg
 have HDK:=hid (And.intro h hg)
 have hlen:=hs.len
 unfold Dk.append
 cases hd:m.down with
 | true =>
   have HFI:=hid (Zbj _ h0 hn hd)
   rw [if_pos rfl]
   clear h hF ha hb hn h0 hg hd hs hoff hnb hlen
   go_enter Tryz.func130,Tryz.ntmps130
   go_wp2_with (fail)
   refine HFI.out.mono ?_
   rintro e w2 ⟨rfl,rfl⟩
   go_wp2_with (fail)
   go_ret
   exact Did.none HDK.out.1 (HDK.out.2.trans (Zb _ _)) 82
 | false =>
 rw [if_neg (by decide)]
 cases hf:Dir.find n m.names with
 | none =>
   have HFI:=hid (Zbk _ h0 hn hd hf)
   dsimp only
   clear h hF ha hb hn h0 hg hd hf hs hoff hnb hlen
   go_enter Tryz.func130,Tryz.ntmps130
   go_wp2_with (fail)
   refine HFI.out.mono ?_
   rintro e w2 ⟨rfl,rfl⟩
   go_wp2_with (fail)
   go_ret
   exact Did.none HDK.out.1 (HDK.out.2.trans (Zb _ _)) 3
 | some f =>
   have HFI:=hid (Zbl _ h0 hn hd hf)
   have hlt:=h.find_lt hn hf
   have WFC:Whole (((w.alloc (.cells #[.pointer (some ⟨d,0,none⟩)] 24)).alloc (.cells #[.slice A nb cb] 37)).alloc (.cells #[.pointer (some ⟨G.loc f,0,none⟩)] 105)) (w.heap.size+1+1) 105 #[ptrV (G.loc f)]:=by
    have:=Whole.made ((w.alloc (.cells #[.pointer (some ⟨d,0,none⟩)] 24)).alloc (.cells #[.slice A nb cb] 37)) 105 #[ptrV (G.loc f)]
    rwa [World.size_alloc,World.size_alloc] at this
   have g1:Grows ((w.alloc (.cells #[.pointer (some ⟨d,0,none⟩)] 24)).alloc (.cells #[.slice A nb cb] 37)) (((w.alloc (.cells #[.pointer (some ⟨d,0,none⟩)] 24)).alloc (.cells #[.slice A nb cb] 37)).alloc (.cells #[.pointer (some ⟨G.loc f,0,none⟩)] 105)):=Zb _ _
   have HT:=hid (fun w3 (g3:Grows (((w.alloc (.cells #[.pointer (some ⟨d,0,none⟩)] 24)).alloc (.cells #[.slice A nb cb] 37)).alloc (.cells #[.pointer (some ⟨G.loc f,0,none⟩)] 105)) w3)=>Zas w3 (h0.grow (g1.trans g3)) hF.cut hF.fail 190 #[] #[.pointer (some ⟨w.heap.size+1+1,0,none⟩),.pointer (some ⟨w.heap.size+1,0,none⟩),.pointer (some ⟨w.heap.size,0,none⟩)] (fun args w=>by kernel_rfl) (Dk.doAppend f bs)
    fun _ hc hx w1 h1 s1=>by
     have hl:=h.top.lt
     refine Zo1 w1 h1 hlt ((g3.whole WFC).same (s1.same _ (g3.whole WFC).lt (by omega))) (((g1.trans g3).whole hb).same (s1.same _ ((g1.trans g3).whole hb).lt (by omega))) (((g1.trans g3).whole ha).same (s1.same _ ((g1.trans g3).whole ha).lt (by omega))) ?_ ((hs.grow (hg.trans (g1.trans g3))).off s1.size fun ad e hne hl'=>s1.same _ hl' (hoff ad e hne).1) hoff (hF.bytes f hlt).1 hnb
     rintro k (rfl | rfl | rfl)
     ·exact ⟨by omega,fun e=>by have:=h.rest.lt _ e;omega⟩
     ·exact ⟨by omega,fun e=>by have:=h.rest.lt _ e;omega⟩
     ·exact ⟨by omega,fun e=>by have:=h.rest.lt _ e;omega⟩)
   have HCL:=hid (show ∀ w',Grows (((w.alloc (.cells #[.pointer (some ⟨d,0,none⟩)] 24)).alloc (.cells #[.slice A nb cb] 37)).alloc (.cells #[.pointer (some ⟨G.loc f,0,none⟩)] 105)) w'→w'.cell? ⟨w.heap.size,0,none⟩=some (.pointer (some ⟨d,0,none⟩))∧w'.cell? ⟨w.heap.size+1,0,none⟩=some (.slice A nb cb)∧w'.cell? ⟨d,2,none⟩=some (.int .i64 m.used)∧w'.cell? ⟨d,0,none⟩=some (.int .i64 m.most)
    from fun w' hg'=>⟨(g1.trans hg').cellq ha,(g1.trans hg').cellq hb,(g1.trans hg').cellq h0.top,(g1.trans hg').cellq h0.top⟩)
   dsimp only
   rw [hlen]
   clear h hF ha hb hn h0 hg hd hf hs hoff hnb hlen hlt WFC g1
   generalize hus:m.used=us at HCL ⊢
   generalize hmo:m.most=mo at HCL ⊢
   clear hus hmo
   have hwi:wrap64 (us+nb)=IntKind.i64.wrap (us+nb):=by unfold wrap64;rw [IntKind.wrap_i64]
   rw [hwi]
   clear hwi
   by_cases hq:mo < IntKind.i64.wrap (us+nb)
   ·rw [if_pos hq]
    have d1:decide (mo < IntKind.i64.wrap (us+nb))=true:=decide_eq_true hq
    clear hq
    go_enter Tryz.func130,Tryz.ntmps130
    go_wp2_with (fail)
    refine HFI.out.mono ?_
    rintro e w2 ⟨rfl,rfl⟩
    go_wp2_with (fail)
    refine Yc mixed (by kernel_rfl) ?_
    iterate 12 (refine q_op' (v:=?_) (a':=?_) (by rfl) ?_ ?_ ?_
                rotate_left 2
                ·intro w' hC
                 obtain ⟨z0,z1,z2,z3⟩:=HCL.out w' hC
                 clear hC
                 go_simp
                 try with_reducible rfl
                ·simp only [Pu]
                 try rfl)
    refine wpQuiet_nil ?_
    intro w3 hC
    have HCw3:=hid hC
    clear hC
    clear HCL
    go_wp2_with (fail)
    go_ret
    exact Did.none HDK.out.1 (HDK.out.2.trans ((Zb _ _).trans HCw3.out)) 5
   ·rw [if_neg hq]
    have d1:decide (mo < IntKind.i64.wrap (us+nb))=false:=decide_eq_false hq
    clear hq
    go_enter Tryz.func130,Tryz.ntmps130
    go_wp2_with (fail)
    refine HFI.out.mono ?_
    rintro e w2 ⟨rfl,rfl⟩
    go_wp2_with (fail)
    refine Yc mixed (by kernel_rfl) ?_
    iterate 12 (refine q_op' (v:=?_) (a':=?_) (by rfl) ?_ ?_ ?_
                rotate_left 2
                ·intro w' hC
                 obtain ⟨z0,z1,z2,z3⟩:=HCL.out w' hC
                 clear hC
                 go_simp
                 try with_reducible rfl
                ·simp only [Pu]
                 try rfl)
    refine wpQuiet_nil ?_
    intro w3 hC
    have HCw3:=hid hC
    clear hC
    obtain ⟨z0,_,_,_⟩:=HCL.out w3 HCw3.out
    clear HCL
    go_wp2_with (fail)
    refine (HT.out w3 HCw3.out).mono ?_
    rintro e w4 ⟨rfl,h4⟩
    have H4:=hid h4
    clear h4 HT
    go_wp2_with (fail)
    go_ret
    exact Did.behind (HDK.out.2.trans ((Zb _ _).trans HCw3.out)) ⟨rfl,H4.out⟩
end
end Go.Proofs.YtkelafkbmnjpeaaGreat
set_option maxHeartbeats 8000000
set_option maxRecDepth 100000
namespace Go.Proofs.YtkelafkbmnjpeaaGreat
open Go.Lib (hid)
open Go.RowKit Go.Maps Go.WideMaps
attribute [local irreducible] Go.wpQuiet
section
variable {w : World} {d : Nat} {own : Nat → Prop} {G : Geo} {m : Dk}
theorem Zm1 (w : World) (n to : Nm) (h : DkAt w d own G m) (hF : DkFit m) (hn : n.length ≤ 1000000) (ht : to.length ≤ 1000000) : Calls Tryz.prog 202 #[.pointer (some ⟨d, 0, none⟩), .string ⟨n.toArray⟩, .string ⟨to.toArray⟩] w fun e w' => Did w d own (m.rename n to) e w' := by
  have hg : Grows w (((w.alloc (.cells #[.pointer (some ⟨d, 0, none⟩)] 24)).alloc (.cells #[.string ⟨n.toArray⟩] 9)).alloc (.cells #[.string ⟨to.toArray⟩] 9)) := ((Zb _ _).trans (Zb _ _)).trans (Zb _ _)
  have ha : Whole (((w.alloc (.cells #[.pointer (some ⟨d, 0, none⟩)] 24)).alloc (.cells #[.string ⟨n.toArray⟩] 9)).alloc (.cells #[.string ⟨to.toArray⟩] 9)) w.heap.size 24 #[ptrV d] := ((Whole.made _ _ _).alloc _).alloc _
  have hb : Whole (((w.alloc (.cells #[.pointer (some ⟨d, 0, none⟩)] 24)).alloc (.cells #[.string ⟨n.toArray⟩] 9)).alloc (.cells #[.string ⟨to.toArray⟩] 9)) (w.heap.size + 1) 9 #[strB n] := by
    have := (Whole.made (w.alloc (.cells #[.pointer (some ⟨d, 0, none⟩)] 24)) 9 #[strB n]).alloc (.cells #[.string ⟨to.toArray⟩] 9)
    rwa [World.size_alloc] at this
  have hc : Whole (((w.alloc (.cells #[.pointer (some ⟨d, 0, none⟩)] 24)).alloc (.cells #[.string ⟨n.toArray⟩] 9)).alloc (.cells #[.string ⟨to.toArray⟩] 9)) (w.heap.size + 1 + 1) 9 #[strB to] := by
    have := Whole.made ((w.alloc (.cells #[.pointer (some ⟨d, 0, none⟩)] 24)).alloc (.cells #[.string ⟨n.toArray⟩] 9)) 9 #[strB to]
    rwa [World.size_alloc, World.size_alloc] at this
  have hnm : n.length ≤ maxLen := by unfold maxLen; omega
  have h0 := h.grow hg
  have HDK := hid (And.intro h hg)
  unfold Dk.rename
  cases hd : m.down with
  | true =>
    have HFI := hid (Zbj _ h0 hnm hd)
    rw [if_pos rfl]
    clear h hF ha hb hc hn hnm h0 hg hd ht
    go_enter Tryz.func202, Tryz.ntmps202
    go_wp2_with (fail)
    refine HFI.out.mono ?_
    rintro e w2 ⟨rfl, rfl⟩
    go_wp2_with (fail)
    go_ret
    exact Did.none HDK.out.1 HDK.out.2 82
  | false =>
  rw [if_neg (by decide)]
  cases hf : Dir.find n m.names with
  | none =>
    have HFI := hid (Zbk _ h0 hnm hd hf)
    dsimp only
    clear h hF ha hb hc hn hnm h0 hg hd hf ht
    go_enter Tryz.func202, Tryz.ntmps202
    go_wp2_with (fail)
    refine HFI.out.mono ?_
    rintro e w2 ⟨rfl, rfl⟩
    go_wp2_with (fail)
    go_ret
    exact Did.none HDK.out.1 HDK.out.2 3
  | some f =>
  have HFI := hid (Zbl _ h0 hnm hd hf)
  dsimp only
  have HR := hid (Zi8 to)
  cases hr : right to with
  | false =>
    rw [hr] at HR
    rw [if_pos (.inl rfl)]
    clear h hF ha hb hc hn hnm h0 hg hd hf hr ht
    go_enter Tryz.func202, Tryz.ntmps202
    go_wp2_with (fail)
    refine HFI.out.mono ?_
    rintro e w2 ⟨rfl, rfl⟩
    go_wp2_with (fail)
    refine (HR.out _).mono ?_
    rintro e w2 ⟨rfl, rfl⟩
    go_wp2_with (fail)
    go_ret
    exact Did.none HDK.out.1 HDK.out.2 1
  | true =>
  rw [hr] at HR
  have HT := hid (Zas _ h0 hF.cut hF.fail 264 #[] #[.pointer (some ⟨w.heap.size, 0, none⟩), .pointer (some ⟨w.heap.size + 1 + 1, 0, none⟩), .pointer (some ⟨w.heap.size + 1, 0, none⟩)] (fun args w => by kernel_rfl) (Dk.doRename n to)
    fun _ _ hx w1 h1 s1 => by
      have hl := h.top.lt
      refine Zox w1 h1 (ha.same (s1.same _ ha.lt (by omega))) (hc.same (s1.same _ hc.lt (by omega))) (hb.same (s1.same _ hb.lt (by omega))) ?_ hn ht hF.pend hF.names
      rintro k (rfl | rfl | rfl)
      · exact ⟨by omega, fun e => by have := h.rest.lt _ e; omega⟩
      · exact ⟨by omega, fun e => by have := h.rest.lt _ e; omega⟩
      · exact ⟨by omega, fun e => by have := h.rest.lt _ e; omega⟩)
  by_cases he : to = n
  · rw [if_pos (.inr he)]
    subst he
    clear h hF ha hb hc hn hnm h0 hg hd hf hr ht HT
    go_enter Tryz.func202, Tryz.ntmps202
    go_wp2_with (fail)
    refine HFI.out.mono ?_
    rintro e w2 ⟨rfl, rfl⟩
    go_wp2_with (fail)
    refine (HR.out _).mono ?_
    rintro e w2 ⟨rfl, rfl⟩
    go_wp2_with (fail)
    go_ret
    exact Did.none HDK.out.1 HDK.out.2 1
  · rw [if_neg (by rintro (e | e); · cases e
                   · exact he e)]
    have hs : (to == n) = false := by rw [beq_eq_false_iff_ne]; exact he
    clear h hF ha hb hc hn hnm h0 hg hd hf hr ht he
    go_enter Tryz.func202, Tryz.ntmps202
    go_wp2_with (fail)
    refine HFI.out.mono ?_
    rintro e w2 ⟨rfl, rfl⟩
    go_wp2_with (fail)
    refine (HR.out _).mono ?_
    rintro e w2 ⟨rfl, rfl⟩
    go_wp2_with (fail)
    refine HT.out.mono ?_
    rintro e w4 ⟨rfl, h4⟩
    have H4 := hid h4
    clear h4 HT
    go_wp2_with (fail)
    go_ret
    exact Did.behind HDK.out.2 ⟨rfl, H4.out⟩
end
def DkNew (w : World) (d : Nat) (w' : World) (m : Dk) : Prop := ∃ own G, DkAt w' d own G m ∧ w.heap.size ≤ d ∧ (∀ k, own k → w.heap.size ≤ k) ∧ Grows w w'
theorem Zvb (w : World) (x : Int) : DkNew w (w.heap.size + 1 + 1) (((w.alloc (.map #[] 0)).alloc (.map #[] 0)).alloc (.cells #[.int .i64 (min (max x 0) 67108864), .int .i64 0, .int .i64 0, .map (some w.heap.size), .map (some (w.heap.size + 1)), .slice none 0 0, .int .i64 0, .int .i64 (-1), .int .i64 (-1), .bool false] 89)) (Dk.new x) := by
  have m1 := (World.ownsMap_made w Tryz.prog 9 (ptrR 0 (fun _ => 0))).alloc (.map #[] 0) |>.alloc (.cells #[.int .i64 (min (max x 0) 67108864), .int .i64 0, .int .i64 0, .map (some w.heap.size), .map (some (w.heap.size + 1)), .slice none 0 0, .int .i64 0, .int .i64 (-1), .int .i64 (-1), .bool false] 89)
  have m2 := (World.ownsMap_made (w.alloc (.map #[] 0)) Tryz.prog 9 (ptrR 0 (fun _ => 0))).alloc (.cells #[.int .i64 (min (max x 0) 67108864), .int .i64 0, .int .i64 0, .map (some w.heap.size), .map (some (w.heap.size + 1)), .slice none 0 0, .int .i64 0, .int .i64 (-1), .int .i64 (-1), .bool false] 89)
  have m3 := Whole.made ((w.alloc (.map #[] 0)).alloc (.map #[] 0)) 89 #[.int .i64 (min (max x 0) 67108864), .int .i64 0, .int .i64 0, .map (some w.heap.size), .map (some (w.heap.size + 1)), .slice none 0 0, .int .i64 0, .int .i64 (-1), .int .i64 (-1), .bool false]
  rw [World.size_alloc] at m2 m3
  rw [World.size_alloc] at m3
  have g1 : Grows w (((w.alloc (.map #[] 0)).alloc (.map #[] 0)).alloc (.cells #[.int .i64 (min (max x 0) 67108864), .int .i64 0, .int .i64 0, .map (some w.heap.size), .map (some (w.heap.size + 1)), .slice none 0 0, .int .i64 0, .int .i64 (-1), .int .i64 (-1), .bool false] 89)) := ((Zb _ _).trans (Zb _ _)).trans (Zb _ _)
  refine ⟨fun k => k = w.heap.size ∨ k = w.heap.size + 1, ⟨w.heap.size, w.heap.size + 1, .slice none 0 0, [], fun _ => 0, fun _ => .slice none 0 0⟩, ⟨?_, m3, by omega⟩, by omega, by omega, g1⟩
  constructor
  · rintro k (rfl | rfl)
    · exact m1.lt
    · exact m2.lt
  · exact m1
  · exact .inl rfl
  · exact m2
  · exact .inr rfl
  · show w.heap.size ≠ w.heap.size + 1
    omega
  · exact ⟨rfl, .inl ⟨rfl, rfl⟩⟩
  · intro k hk; cases hk
  · intro i v c h1 h2; simp at h1
  · intro i j hi; exact absurd hi (Nat.not_lt_zero _)
  · intro i hi; exact absurd hi (Nat.not_lt_zero _)
  · intro i hi; exact absurd hi (Nat.not_lt_zero _)
  · intro i hi; exact absurd hi (Nat.not_lt_zero _)
  · intro i k hi; exact absurd hi (Nat.not_lt_zero _)
  · intro i j k hi; exact absurd hi (Nat.not_lt_zero _)
theorem Zot (w : World) (x : Int) : Calls Tryz.prog 10 #[.int .i64 x] w fun e w' => ∃ d, e = .returned (.pointer (some ⟨d, 0, none⟩)) ∧ DkNew w d w' (Dk.new x) := by
  have HN := hid (Zvb w x)
  have hmm := @run_makeMap Tryz.prog
  go_enter Tryz.func10, Tryz.ntmps10
  go_wp2
  go_ret
  exact ⟨_, rfl, HN.out⟩
end Go.Proofs.YtkelafkbmnjpeaaGreat
