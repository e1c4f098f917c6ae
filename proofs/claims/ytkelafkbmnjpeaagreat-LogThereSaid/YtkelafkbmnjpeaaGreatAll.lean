import Derived.Test.YtkelafkbmnjpeaaGreatMG20
import Derived.Test.YtkelafkbmnjpeaaGreatMG16
import Derived.Test.YtkelafkbmnjpeaaGreatMG18
import Derived.Deep.RegionHeld3
set_option linter.unusedSimpArgs false
set_option linter.unusedVariables false
set_option maxHeartbeats 8000000
set_option maxRecDepth 100000
namespace Go.Proofs.YtkelafkbmnjpeaaGreat
open Go.Lib (hid)
open Go.RowKit Go.Shelf
attribute [local go_sem] Oper.semAt_some

def hdsE (l:List Xv):List Hd:=(l.filter fun x=>x.1.2.2.2==0).map fun x=>(x.2.1,x.1.2.2.1.length,x.2.2)
theorem Zp7 (l:List Xv) (x:Xv):hdsE (l++[x])=hdsE l++if x.1.2.2.2=0 then [(x.2.1,x.1.2.2.1.length,x.2.2)] else []:=by
 unfold hdsE
 rw [List.filter_append,List.map_append]
 by_cases h:x.1.2.2.2=0 <;> simp [h]

structure Zdc (n₀ m N:Nat) (w:World) (pre:List Xv) (W:World):Prop where
 goes:∀ y∈pre,Goes y.1
 upto:endE 0 (pre.map (·.1))≤N
 many:9*(gotE (pre.map (·.1))).length+9*badE (pre.map (·.1))≤endE 0 (pre.map (·.1))
 list:∃ A c,Boxed W (n₀+1+1+1+1) 203 (.slice A (gotE (pre.map (·.1))).length c)∧W.ownsRow m 212 3 (.slice A (gotE (pre.map (·.1))).length c) (gotE (pre.map (·.1))).length (itCells (gotE (pre.map (·.1))) (hdsE pre))
 bodies:Jj W m (hdsE pre) (gotE (pre.map (·.1)))
 bad:Boxed W (n₀+1+1+1+1+1) 3 (.int .i64 (badE (pre.map (·.1)):Nat))
 ends:Boxed W (n₀+1+1+1+1+1+1) 3 (.int .i64 (endE 0 (pre.map (·.1)):Nat))
 res1:Boxed W n₀ 203 (.slice none 0 0)
 res2:Boxed W (n₀+1) 3 (.int .i64 0)
 res3:Boxed W (n₀+1+1) 3 (.int .i64 0)
 res4:Boxed W (n₀+1+1+1) 30 (.int .i64 0)
 low:Below n₀ w W
structure Zmi (n₀ m:Nat) (w:World) (ts:List It) (hs:List Hd) (bad ends err:Nat) (W:World):Prop where
 list:∃ A c,Boxed W n₀ 203 (.slice A ts.length c)∧W.ownsRow m 212 3 (.slice A ts.length c) ts.length (itCells ts hs)
 bodies:Jj W m hs ts
 res2:Boxed W (n₀+1) 3 (.int .i64 (bad:Nat))
 res3:Boxed W (n₀+1+1) 3 (.int .i64 (ends:Nat))
 res4:Boxed W (n₀+1+1+1) 30 (.int .i64 (err:Nat))
 low:Below n₀ w W
def Zfh (n₀ m:Nat) (w:World) (l:List Xv) (W:World):Prop :=
 ∃ pre x,l=pre++[x]∧(∀ y∈pre,Goes y.1)∧x.1.2.2.2≠0∧x.1.2.1=0∧Zmi n₀ m w (gotE (pre.map (·.1))) (hdsE pre) (badE (pre.map (·.1))) x.1.1 x.1.2.2.2 W

theorem Zmi.stay {n₀ m B:Nat} {w X Y:World} {ts:List It} {hs:List Hd} {bad ends err:Nat} (hB:n₀≤B) (hw:n₀≤w.heap.size) (h:Zmi n₀ m w ts hs bad ends err X) (hc:Zj B X Y):Zmi n₀ m w ts hs bad ends err Y:=by
 obtain ⟨⟨A,c,h1,h2⟩,h3,h4,h5,h6,h7⟩:=h
 exact ⟨⟨A,c,hc.boxed h1,hc.owned h2⟩,h3.step fun _ _ _ h=>hc.owned h,hc.boxed h4,hc.boxed h5,hc.boxed h6,h7.trans (hc.under hB (Nat.le_trans hw h7.size))⟩
theorem Zdc.stay {n₀ m N B:Nat} {w X Y:World} {pre:List Xv} (hB:n₀≤B) (hw:n₀≤w.heap.size) (h:Zdc n₀ m N w pre X) (hc:Zj B X Y):Zdc n₀ m N w pre Y:=by
 obtain ⟨g1,g2,g3,⟨A,c,h1,h2⟩,h3,h4,h5,h6,h7,h8,h9,h10⟩:=h
 exact ⟨g1,g2,g3,⟨A,c,hc.boxed h1,hc.owned h2⟩,h3.step fun _ _ _ h=>hc.owned h,hc.boxed h4,hc.boxed h5,hc.boxed h6,hc.boxed h7,hc.boxed h8,hc.boxed h9,h10.trans (hc.under hB (Nat.le_trans hw h10.size))⟩
theorem Zfh.stay {n₀ m B:Nat} {w X Y:World} {l:List Xv} (hB:n₀≤B) (hw:n₀≤w.heap.size) (h:Zfh n₀ m w l X) (hc:Zj B X Y):Zfh n₀ m w l Y:=by
 obtain ⟨pre,x,h1,h2,h3,h4,h5⟩:=h
 exact ⟨pre,x,h1,h2,h3,h4,h5.stay hB hw hc⟩

theorem Zjy {X:World} {q:Addr} {v u:Value} {b i:Nat} (h:X.cell? q=some v) (hne:q.block≠b):(X.setCell ⟨b,i,none⟩ u).cell? q=some v :=
 (World.cell?_setCell_other X _ q u (fun e=>hne (by rw [←e]))).trans h
theorem Zds {X:World} {q:Addr} {v:Value} (h:X.cell? q=some v):X.drew.cell? q=some v:=h
theorem Zp8 {X:World} {q:Addr} {v u:Value} {b i:Nat} (h:X.cell? q=some v) (hne:q.block≠b):(X.setCell ⟨b,i,none⟩ u).drew.cell? q=some v:=Zjy h hne
theorem Zg5 {n₀:Nat} {X:World} {v v' b b' q q' e e':Value} (h0:Boxed X n₀ 203 v) (h1:Boxed X (n₀+1) 3 b) (h2:Boxed X (n₀+1+1) 3 q) (h3:Boxed X (n₀+1+1+1) 30 e) :
 ∃ Y,((((X.setCell ⟨n₀,0,none⟩ v').setCell ⟨n₀+1,0,none⟩ b').setCell ⟨n₀+1+1,0,none⟩ q').setCell ⟨n₀+1+1+1,0,none⟩ e').drew=Y∧Zc (fun k=>n₀≤k∧k < n₀+1+1+1+1+1+1+1) X Y ∧
  Boxed Y n₀ 203 v'∧Boxed Y (n₀+1) 3 b'∧Boxed Y (n₀+1+1) 3 q'∧Boxed Y (n₀+1+1+1) 30 e':=by
 refine ⟨_,rfl,?_⟩
 have k0:Whole X n₀ 203 #[v]:=h0
 have k1:Whole X (n₀+1) 3 #[b]:=h1
 have k2:Whole X (n₀+1+1) 3 #[q]:=h2
 have k3:Whole X (n₀+1+1+1) 30 #[e]:=h3
 clear h0 h1 h2 h3
 generalize h1:X.setCell ⟨n₀,0,none⟩ v'=X1
 generalize h2:X1.setCell ⟨n₀+1,0,none⟩ b'=X2
 generalize h3:X2.setCell ⟨n₀+1+1,0,none⟩ q'=X3
 generalize h4:X3.setCell ⟨n₀+1+1+1,0,none⟩ e'=X4
 have s:=((Y8 (n₀:=n₀) (m:=n₀+1+1+1+1+1+1+1) v' h1 (by omega) (by omega)).trans (Y8 b' h2 (by omega) (by omega))).trans ((Y8 q' h3 (by omega) (by omega)).trans (Y8 e' h4 (by omega) (by omega)))
 have a1:Whole X1 n₀ 203 #[v']:=J4 v' k0 h1
 have a2:Whole X2 n₀ 203 #[v']:=Zr b' a1 h2 (by omega)
 have a3:Whole X3 n₀ 203 #[v']:=Zr q' a2 h3 (by omega)
 have a4:Whole X4 n₀ 203 #[v']:=Zr e' a3 h4 (by omega)
 have b1:Whole X1 (n₀+1) 3 #[b]:=Zr v' k1 h1 (by omega)
 have b2:Whole X2 (n₀+1) 3 #[b']:=J4 b' b1 h2
 have b3:Whole X3 (n₀+1) 3 #[b']:=Zr q' b2 h3 (by omega)
 have b4:Whole X4 (n₀+1) 3 #[b']:=Zr e' b3 h4 (by omega)
 have c1:Whole X1 (n₀+1+1) 3 #[q]:=Zr v' k2 h1 (by omega)
 have c2:Whole X2 (n₀+1+1) 3 #[q]:=Zr b' c1 h2 (by omega)
 have c3:Whole X3 (n₀+1+1) 3 #[q']:=J4 q' c2 h3
 have c4:Whole X4 (n₀+1+1) 3 #[q']:=Zr e' c3 h4 (by omega)
 have d1:Whole X1 (n₀+1+1+1) 30 #[e]:=Zr v' k3 h1 (by omega)
 have d2:Whole X2 (n₀+1+1+1) 30 #[e]:=Zr b' d1 h2 (by omega)
 have d3:Whole X3 (n₀+1+1+1) 30 #[e]:=Zr q' d2 h3 (by omega)
 have d4:Whole X4 (n₀+1+1+1) 30 #[e']:=J4 e' d3 h4
 exact ⟨s.drew,a4,b4,c4,d4⟩


theorem Zdc.of {n₀ m N:Nat} {w W:World} {pre:List Xv} {ts:List It} {hs:List Hd} {bd en:Nat} {v:Value} (hm:gotE (pre.map (·.1))=ts) (hh:hdsE pre=hs) (hb:badE (pre.map (·.1))=bd) (he:endE 0 (pre.map (·.1))=en)
 (g1:∀ y∈pre,Goes y.1) (g2:en≤N) (g3:9*ts.length+9*bd≤en) (h1:Boxed W (n₀+1+1+1+1) 203 v) (h2:W.ownsRow m 212 3 v ts.length (itCells ts hs))
 (h3:Jj W m hs ts) (h4:Boxed W (n₀+1+1+1+1+1) 3 (.int .i64 (bd:Nat))) (h5:Boxed W (n₀+1+1+1+1+1+1) 3 (.int .i64 (en:Nat))) (r1:Boxed W n₀ 203 (.slice none 0 0))
 (r2:Boxed W (n₀+1) 3 (.int .i64 0)) (r3:Boxed W (n₀+1+1) 3 (.int .i64 0)) (r4:Boxed W (n₀+1+1+1) 30 (.int .i64 0)) (hl:Below n₀ w W):Zdc n₀ m N w pre W:=by
 subst hm hh hb he
 obtain ⟨A,c,rfl⟩:=Zpw h2
 exact ⟨g1,g2,g3,⟨A,c,h1,h2⟩,h3,h4,h5,r1,r2,r3,r4,hl⟩

theorem Zuy {n₀ m n₁ xa xk xe xc bd:Nat} {w W0 Wb X:World} {a:Act} {I:List Xv→World→Prop} {pre:List Xv} {xy:List UInt8} {xA LA:Option Addr} {lc:Nat} {ts:List It} {hs:List Hd} {v0 v1 v2 v3:Value}
 (h:Zc (fun k=>n₀≤k∧k < n₀+1+1+1+1+1+1+1) Wb X∧X.ownsRow m 212 3 (.slice LA ts.length lc) ts.length (itCells ts hs)∧Jj X m hs ts ∧
   Boxed X n₀ 203 v0∧Boxed X (n₀+1) 3 v1∧Boxed X (n₀+1+1) 3 v2∧Boxed X (n₀+1+1+1) 30 v3)
 (hgoes:∀ y∈pre,Goes y.1) (hlow:Below n₀ w Wb) (hw:n₀≤w.heap.size) (hx:xe≠0) (hk:xk=0) (hm:n₀+1+1+1+1+1+1+1≤m) (hts:gotE (pre.map (·.1))=ts∧hdsE pre=hs∧badE (pre.map (·.1))=bd) :
 Zja (Mine n₀ (n₀+1+1+1+1+1+1+1) n₁ W0) I (Zfh n₀ m w) (pre++[((xa,xk,xy,xe),xA,xc)]) Wb .ret a
  ((((X.setCell ⟨n₀,0,none⟩ (.slice LA ts.length lc)).setCell ⟨n₀+1,0,none⟩ (.int .i64 (bd:Nat))).setCell ⟨n₀+1+1,0,none⟩ (.int .i64 ((xa:Int)+(xk:Int)))).setCell ⟨n₀+1+1+1,0,none⟩ (.int .i64 (xe:Nat))).drew:=by
 obtain ⟨hsX,h1,h2,r1,r2,r3,r4⟩:=h
 obtain ⟨Y,hY,hs',y1,y2,y3,y4⟩:=Zg5 (v':=.slice LA ts.length lc) (b':=.int .i64 (bd:Nat)) (q':=.int .i64 ((xa:Int)+(xk:Int))) (e':=.int .i64 (xe:Nat)) r1 r2 r3 r4
 rw [hY]
 have hsY:=hsX.trans hs'
 obtain ⟨rfl,rfl,rfl⟩:=hts
 have kept:∀ (t:TypeId) (size:Nat) (v:Value) (n:Nat) (ys:List Value),X.ownsRow m t size v n ys→Y.ownsRow m t size v n ys:=fun t size v n ys h=>by
  obtain ⟨h1,h2⟩:=h
  refine ⟨h1,?_⟩
  rcases h2 with h2 | ⟨g,cap,cur,hv,hb,hh,r⟩
  ·exact .inl h2
  ·exact .inr ⟨g,cap,cur,hv,hb,(hs'.same g (Array.getElem?_eq_some_iff.1 hh).1 (fun h=>by omega)).trans hh,r⟩
 refine ⟨hsY.wider fun k _ hk=>.inl hk,pre,_,rfl,hgoes,hx,hk,⟨⟨LA,lc,y1,kept _ _ _ _ _ h1⟩,h2.step fun v n ys h=>kept _ _ v n ys h,y2,?_,y4,hlow.trans (Zc.below hsY (Nat.le_trans hw hlow.size) fun k hk h=>by omega)⟩⟩
 rw [hk] at y3
 simpa using y3

theorem Zp9 (A:Option Addr) (N c:Nat) (bs:List UInt8) (w:World) (hs:Sl w A N c bs) (hN:N≤1000000) :
 Calls Tryz.prog 149 #[.slice A N c] w fun e w'=>∃ A' c' hs',e=.returned (.tuple #[.slice A' (allB bs 0).1.length c',.int .i64 ((allB bs 0).2.1:Nat),.int .i64 ((allB bs 0).2.2.1:Nat),.int .i64 ((allB bs 0).2.2.2:Nat)]) ∧
  w'.ownsRow w.heap.size 212 3 (.slice A' (allB bs 0).1.length c') (allB bs 0).1.length (itCells (allB bs 0).1 hs')∧Jj w' w.heap.size hs' (allB bs 0).1∧Below w.heap.size w w':=by
 have hmix:Tryz.prog.follows .mixedOrders=true:=by kernel_rfl
 have HS:=hid hs
 clear hs
 refine (callsIn_wide (n:=3)).1 ?_
 refine callsIn_of_wp_marks Tryz.func149 rfl trivial ?_ rfl
 simp only [Tryz.ntmps149,List.size_toArray,List.length_cons,List.length_nil,Nat.reduceAdd,Nat.reduceSub,Array.replicate_succ,Array.replicate_zero,List.push_toArray,List.append_toArray,List.nil_append,List.cons_append]
 gi_wp2_with (fail)
 refine ⟨trivial,(callsIn_wide.2 (Zno A N c 0 _)).mono ?_⟩
 rintro e V ⟨rfl,hV⟩
 obtain ⟨V1,hV1⟩:∃ V1,w.alloc (.cells #[.slice none 0 0] 203)=V1:=⟨_,rfl⟩
 obtain ⟨V2,hV2⟩:∃ V2,V1.alloc (.cells #[.int .i64 0] 3)=V2:=⟨_,rfl⟩
 obtain ⟨V3,hV3⟩:∃ V3,V2.alloc (.cells #[.int .i64 0] 3)=V3:=⟨_,rfl⟩
 obtain ⟨V4,hV4⟩:∃ V4,V3.alloc (.cells #[.int .i64 0] 30)=V4:=⟨_,rfl⟩
 obtain ⟨V5,hV5⟩:∃ V5,V4.alloc (.cells #[.slice none 0 0] 203)=V5:=⟨_,rfl⟩
 obtain ⟨V6,hV6⟩:∃ V6,V5.alloc (.cells #[.int .i64 0] 3)=V6:=⟨_,rfl⟩
 obtain ⟨V7,hV7⟩:∃ V7,V6.alloc (.cells #[.int .i64 0] 3)=V7:=⟨_,rfl⟩
 obtain ⟨V8,hV8⟩:∃ V8,V7.alloc (.cells #[.slice A N c] 37)=V8:=⟨_,rfl⟩
 have s1:V1.heap.size=w.heap.size+1:=by rw [←hV1,World.size_alloc]
 have g1:Grows w V1:=hV1 ▸ Zb _ _
 have s2:V2.heap.size=w.heap.size+1+1:=by rw [←hV2,World.size_alloc,s1]
 have g2:Grows V1 V2:=hV2 ▸ Zb _ _
 have s3:V3.heap.size=w.heap.size+1+1+1:=by rw [←hV3,World.size_alloc,s2]
 have g3:Grows V2 V3:=hV3 ▸ Zb _ _
 have s4:V4.heap.size=w.heap.size+1+1+1+1:=by rw [←hV4,World.size_alloc,s3]
 have g4:Grows V3 V4:=hV4 ▸ Zb _ _
 have s5:V5.heap.size=w.heap.size+1+1+1+1+1:=by rw [←hV5,World.size_alloc,s4]
 have g5:Grows V4 V5:=hV5 ▸ Zb _ _
 have s6:V6.heap.size=w.heap.size+1+1+1+1+1+1:=by rw [←hV6,World.size_alloc,s5]
 have g6:Grows V5 V6:=hV6 ▸ Zb _ _
 have s7:V7.heap.size=w.heap.size+1+1+1+1+1+1+1:=by rw [←hV7,World.size_alloc,s6]
 have g7:Grows V6 V7:=hV7 ▸ Zb _ _
 have s8:V8.heap.size=w.heap.size+1+1+1+1+1+1+1+1:=by rw [←hV8,World.size_alloc,s7]
 have g8:Grows V7 V8:=hV8 ▸ Zb _ _
 have b1:Boxed V1 w.heap.size 203 (.slice none 0 0):=by rw [←hV1];exact Boxed.new _ _ _
 have b2:Boxed V2 (w.heap.size+1) 3 (.int .i64 0):=by rw [←s1,←hV2];exact Boxed.new _ _ _
 have b3:Boxed V3 (w.heap.size+1+1) 3 (.int .i64 0):=by rw [←s2,←hV3];exact Boxed.new _ _ _
 have b4:Boxed V4 (w.heap.size+1+1+1) 30 (.int .i64 0):=by rw [←s3,←hV4];exact Boxed.new _ _ _
 have b5:Boxed V5 (w.heap.size+1+1+1+1) 203 (.slice none 0 0):=by rw [←s4,←hV5];exact Boxed.new _ _ _
 have b6:Boxed V6 (w.heap.size+1+1+1+1+1) 3 (.int .i64 0):=by rw [←s5,←hV6];exact Boxed.new _ _ _
 have b7:Boxed V7 (w.heap.size+1+1+1+1+1+1) 3 (.int .i64 0):=by rw [←s6,←hV7];exact Boxed.new _ _ _
 have b8:Boxed V8 (w.heap.size+1+1+1+1+1+1+1) 37 (.slice A N c):=by rw [←s7,←hV8];exact Boxed.new _ _ _
 rw [hV1,hV2,hV3,hV4,hV5,hV6,hV7,hV8] at hV
 rw [hV1,hV2,hV3,hV4,hV5,hV6,hV7]
 have s9:V.heap.size=w.heap.size+1+1+1+1+1+1+1+1+1:=by rw [←hV,World.size_alloc,s8]
 have g9:Grows V8 V:=hV ▸ Zb _ _
 have b9:Boxed V (w.heap.size+1+1+1+1+1+1+1+1) 3 (.int .i64 (0:Nat)):=by rw [←s8,←hV];exact Boxed.new _ _ _
 have up:∀ {W W':World} {k:Nat} {o:Obj},W.heap[k]?=some o→Grows W W'→W'.heap[k]?=some o:=fun h hg=>(hg.block _ (Array.getElem?_eq_some_iff.1 h).1).trans h
 replace b8:Boxed V _ _ _:=up b8 g9
 have g89:=Grows.trans g8 g9
 replace b7:Boxed V _ _ _:=up b7 g89
 have g79:=Grows.trans g7 g89
 replace b6:Boxed V _ _ _:=up b6 g79
 have g69:=Grows.trans g6 g79
 replace b5:Boxed V _ _ _:=up b5 g69
 have g59:=Grows.trans g5 g69
 replace b4:Boxed V _ _ _:=up b4 g59
 have g49:=Grows.trans g4 g59
 replace b3:Boxed V _ _ _:=up b3 g49
 have g39:=Grows.trans g3 g49
 replace b2:Boxed V _ _ _:=up b2 g39
 have g29:=Grows.trans g2 g39
 replace b1:Boxed V _ _ _:=up b1 g29
 have g19:=Grows.trans g1 g29
 rw [s7]
 clear hV hV1 hV2 hV3 hV4 hV5 hV6 hV7 hV8 g1 g2 g3 g4 g5 g6 g7 g8 g9 g29 g39 g49 g59 g69 g79 g89 s1 s2 s3 s4 s5 s6 s8 up
 have hgives:=Zjt 2 w.heap.size _ _ A N c bs 0 V (by omega) b9 b8 (HS.out.grow g19) (HS.out.bytes.below g19) (by omega) (by omega)
 rw [List.drop_zero] at hgives
 have hnV:w.heap.size≤V.heap.size:=by omega
 have h0:Zdc w.heap.size (w.heap.size+1+1+1+1+1+1+1+1+1) N w [] V:=⟨(fun y hy=>by cases hy),Nat.zero_le _,Nat.zero_le _,⟨none,0,b5,World.ownsRow_nil _ _ _ _⟩,Jj.nil _ _,b6,b7,b1,b2,b3,b4,g19⟩
 have HG:=hid hgives
 have H0:=hid h0
 have S9:=hid s9
 clear hgives h0 b1 b2 b3 b4 b5 b6 b7 b8 b9 g19 s9 s7
 gi_wp2_with (fail)
 refine Zbm (gf:=282) (lb:=#[.pointer (some ⟨w.heap.size+1+1+1+1+1+1+1+1,0,none⟩),.pointer (some ⟨w.heap.size+1+1+1+1+1+1+1,0,none⟩)]) rfl (enters_of Tryz.func282 (by kernel_rfl) rfl) HG.out (fun _=>rfl)
  w.heap.size (w.heap.size+1+1+1+1+1+1+1) (by omega) (by rw [S9.out];omega) (fun k hk=>by rw [S9.out];omega) (Zdc w.heap.size (w.heap.size+1+1+1+1+1+1+1+1+1) N w) (Zfh w.heap.size (w.heap.size+1+1+1+1+1+1+1+1+1) w)
  (fun _ _ _ h hc=>h.stay hnV (Nat.le_refl _) hc) (fun _ _ _ h hc=>h.stay hnV (Nat.le_refl _) hc) H0.out ?round ?done ?stop
 case round =>
  rintro l pre ⟨⟨xa,xk,xy,xe⟩,xA,xc⟩ W0 W hsz hi hg hgd
  simp only [Nat.reduceSub]
  dsimp only [xVals,xItem]
  gi_wp2_with (fail)
  refine ⟨Zb _ _,fun Wb hcw=>?_⟩
  obtain ⟨hat,hown,hsum,herr,hbig,hsize⟩:=hgd
  dsimp only at hat hown hsum herr hbig hsize
  have HSZ:=hid hsize
  have HBIG:=hid hbig
  clear hsize hbig
  obtain ⟨i0,hi0,hz0,hz1,hz2⟩:=info_parts infoItem
  have HI:=hid (And.intro hi0 (And.intro hz0 (And.intro hz1 hz2)))
  have HAT:=hid hat
  have HBV:=hid (show V.heap.size≤Wb.heap.size from Nat.le_trans hsz (Nat.le_trans hg.size (Nat.le_trans (Zb W _).size hcw.size)))
  have hbox:=hcw.held (World.alloc_heap_new W (.cells #[.int .i64 (xa:Nat),.int .i64 (xk:Nat),.slice xA xy.length xc] 212))
  have hcW:Zj V.heap.size W0 Wb:=(Zj.grows (Grows.trans hg (Zb W _))).trans hcw
  have hownb:=hcw.owned (Zd hown (Zb W (.cells #[.int .i64 (xa:Nat),.int .i64 (xk:Nat),.slice xA xy.length xc] 212)))
  have hfb:w.heap.size+1+1+1+1+1+1+1+1+1≤W.heap.size:=by have:=hg.size;have:=S9.out;omega
  have hownb':=Zh hownb (show w.heap.size+1+1+1+1+1+1+1+1+1≤W0.heap.size by have:=S9.out;omega)
  obtain ⟨LA,lc,lb,lown⟩:=hi.list
  have hmine:=Zc8 (n₀:=w.heap.size) (m:=w.heap.size+1+1+1+1+1+1+1) lown
  have p8:=hcW.boxed lb
  have p9:=hcW.owned lown
  obtain ⟨p1,p2,p3,-,p5,p6,p7,r1,r2,r3,r4,plow⟩:=hi.stay hnV (Nat.le_refl _) hcW
  have HP:=hid (And.intro p1 (And.intro r1 (And.intro r2 (And.intro r3 (And.intro r4 plow)))))
  have HM:=hid hmine
  rw [←S9.out] at hmine
  have HM9:=hid hmine
  have hen:endE 0 (pre.map (·.1))=xa:=hat.symm
  rw [hen] at p2 p3 p7
  have hgot:=Zpk (pre.map (·.1)) (xa,xk,xy,xe)
  have hhds:=Zp7 pre ((xa,xk,xy,xe),xA,xc)
  have hbad:=Zpl (pre.map (·.1)) (xa,xk,xy,xe)
  have hend:=Ze5 (xa,xk,xy,xe) (pre.map (·.1)) 0
  dsimp only at hgot hhds hbad hend
  have HSN:=hid (And.intro hgot (And.intro hhds (And.intro hbad hend)))
  clear hcw hown hownb hcW hg hi hsz p1 r1 r2 r3 r4 plow hi0 hz0 hz1 hz2 hat hmine lb lown hen hgot hhds hbad hend
  generalize W.heap.size=fb at *
  generalize hts:gotE (pre.map (·.1))=ts at *
  generalize hhs:hdsE pre=hs at *
  generalize hbd:badE (pre.map (·.1))=bd at *
  have HTS:=hid (And.intro hts (And.intro hhs hbd))
  clear hts hhs hbd
  have c0:=cell_of_row Wb fb 0 _ _ _ hbox
  have c1:=cell_of_row Wb fb 1 _ _ _ hbox
  have c2:=cell_of_row Wb fb 2 _ _ _ hbox
  simp only [Gt] at c0 c1 c2
  have q0:=p7.cell
  have q1:=p7.frozen
  obtain ⟨X,hX⟩:∃ X,Wb.setCell ⟨w.heap.size+1+1+1+1+1+1,0,none⟩ (.int .i64 ((xa:Int)+(xk:Int)))=X:=⟨_,rfl⟩
  have hsX:=Y8 (n₀:=w.heap.size) (m:=w.heap.size+1+1+1+1+1+1+1) _ hX (by omega) (by omega)
  have x1:X.heap[fb]?=_:=Zr _ hbox hX (by omega)
  have x2:Boxed X _ _ _:=J4 _ p7 hX
  have x3:Boxed X _ _ _:=Zr _ p6 hX (by omega)
  have x4:Boxed X _ _ _:=Zr _ p8 hX (by omega)
  have kept:∀ (t:TypeId) (size:Nat) (v:Value) (n:Nat) (ys:List Value),Wb.ownsRow (w.heap.size+1+1+1+1+1+1+1+1+1) t size v n ys→X.ownsRow (w.heap.size+1+1+1+1+1+1+1+1+1) t size v n ys:=fun _ _ _ _ _ h=>hX ▸ ownsRow_setCell_below h (by dsimp only;omega) _
  have x5:=kept _ _ _ _ _ p9
  have x6:=p5.step (w':=X) fun v n ys h=>kept _ _ v n ys h
  have x7:=kept _ _ _ _ _ hownb'
  have l0:=cell_of_row X fb 0 _ _ _ x1
  have l1:=cell_of_row X fb 1 _ _ _ x1
  have l2:=cell_of_row X fb 2 _ _ _ x1
  simp only [Gt] at l0 l1 l2
  have l3:=x4.cell
  have l4:=x4.frozen
  have l5:=x3.cell
  have l6:=x3.frozen
  have HX:=hid (And.intro hsX (And.intro x2 (And.intro x3 (And.intro x4 (And.intro x5 (And.intro x6 x7))))))
  have HXE:=hid hX
  have hpass:=Zd3 xa xk xA xy.length xc X (by omega)
  clear hbox p5 p6 p7 p8 p9 hownb' hX hsX x1 x2 x3 x4 x5 x6 x7 kept
  have hlen:ts.length≤1000000:=by omega
  by_cases hx:xe=0
  ·subst hx
   have HLST:=hid hlen
   gi_wp2_with (first
    | rw [HXE.out]
    | (gi_at_builtin
       refine wpListIn_append_own _ rfl (.tmp 25) (.tmp 27) 203 rfl (w.heap.size+1+1+1+1+1+1+1+1+1) 212 i0 (.agg #[.int .i64 0,.int .i64 0,.slice none 0 0]) 3 40 Tryz.underlying203 HI.out.1 HI.out.2.1 HI.out.2.2.1 HI.out.2.2.2 rfl (by decide) (.slice LA ts.length lc) ts.length (itCells ts hs) rfl
        (HX.out.2.2.2.2.1.alloc _) ⟨X.heap.size,0,none⟩ 1 1 (itV (xa,xk,xy) (xA,xy.length,xc)) rfl rfl (Zvg (Whole.made X _ _)) (Zuu _ _) (by unfold maxLen;omega) (by omega) (by have:=HX.out.1.size;have:=HBV.out;have:=S9.out;simp;omega) ?_
       intro v1 w1 hown1 hgrow1 _
       obtain ⟨g1,cap1,rfl⟩:=ownsRow_succ hown1
       have y4:Boxed w1 (w.heap.size+1+1+1+1) 203 (.slice LA ts.length lc):=(HX.out.2.2.2.1.alloc _).kept hgrow1 (fun e=>by have:=(HM.out _ e.symm).1;omega)
       have z4:=y4.cell
       have z5:=y4.frozen
       have HY4:=hid y4
       have HOWN1:=hid hown1
       have HGR1:=hid hgrow1
       clear y4 hown1 hgrow1)
    | fail)
   obtain ⟨hsX,x2,x3,x4,x5,x6,x7⟩:=HX.out
   obtain ⟨p1,r1,r2,r3,r4,plow⟩:=HP.out
   obtain ⟨hgot,hhds,hbad,hend⟩:=HSN.out
   rw [if_pos trivial] at hgot hhds hbad
   have hrow:∀ g,(Value.slice LA ts.length lc).ownBlock=some g→w.heap.size+1+1+1+1+1+1+1+1+1≤g:=fun g hg=>(HM.out g hg).1
   obtain ⟨Y,hY⟩:∃ Y,w1.setCell ⟨w.heap.size+1+1+1+1,0,none⟩ (.slice (some ⟨g1,0,none⟩) (ts.length+1) cap1)=Y:=⟨_,rfl⟩
   rw [hY]
   have box:∀ (b:Nat) (t:TypeId) (v:Value),Boxed X b t v→b < w.heap.size+1+1+1+1+1+1+1+1+1→b≠w.heap.size+1+1+1+1→Boxed Y b t v:=fun b t v hb hlt hne =>
    Zr _ (show Whole w1 b t #[v] from (hb.alloc _).kept HGR1.out (fun e=>by have:=hrow _ e.symm;omega)) hY hne
   have down:∀ (b:Nat) (t:TypeId) (v:Value),Boxed Wb b t v→b≠w.heap.size+1+1+1+1+1+1→Boxed X b t v:=fun b t v hb hne=>Zr _ (show Whole Wb b t #[v] from hb) HXE.out hne
   have own1:∀ (v:Value) (n:Nat) (ys:List Value),X.ownsRow (w.heap.size+1+1+1+1+1+1+1+1+1) 5 1 v n ys→Y.ownsRow (w.heap.size+1+1+1+1+1+1+1+1+1) 5 1 v n ys:=fun v n ys h =>
    by
    have ha:=Zjr (h.alloc (.cells #[.int .i64 (xa:Nat),.int .i64 (xk:Nat),.slice xA xy.length xc] 212)) (x5.alloc (.cells #[.int .i64 (xa:Nat),.int .i64 (xk:Nat),.slice xA xy.length xc] 212)) (by decide)
    exact hY ▸ ownsRow_setCell_below ((h.alloc (.cells #[.int .i64 (xa:Nat),.int .i64 (xk:Nat),.slice xA xy.length xc] 212)).kept HGR1.out ha) (by dsimp only;omega) _
   have hspY:Zc (Mine w.heap.size (w.heap.size+1+1+1+1+1+1+1) V.heap.size W0) Wb Y :=
    (((hsX.wider fun k _ hk=>.inl hk).trans (Zc.grows (Zb X _))).grown HGR1.out (fun g hg=>(HM9.out g hg).2)).trans ((Y8 (n₀:=w.heap.size) (m:=w.heap.size+1+1+1+1+1+1+1) _ hY (by omega) (by omega)).wider fun k _ hk=>.inl hk)
   refine ⟨hspY,Zdc.of (v:=.slice (some ⟨g1,0,none⟩) (ts.length+1) cap1) (ts:=ts++[(xa,xk,xy)]) (hs:=hs++[(xA,xy.length,xc)]) (bd:=bd) (en:=xa+xk) ?_ hhds ?_ ?_ ?_ hsum ?_ ?_ ?_ ?_ ?_ ?_ ?_ ?_ ?_ ?_ ?_⟩
   ·rw [List.map_append];exact hgot
   ·rw [List.map_append];exact hbad
   ·rw [List.map_append];exact hend
   ·intro y hy
    rcases List.mem_append.1 hy with hy | hy
    ·exact p1 y hy
    ·rw [List.mem_singleton.1 hy];exact .inl rfl
   ·rw [List.length_append];have:=(by simpa using HBIG.out:9≤xk);simp only [List.length_cons,List.length_nil];omega
   ·exact J4 _ HY4.out hY
   ·rw [Zjs _ _ _ _ x6.1.symm,List.length_append]
    exact hY ▸ ownsRow_setCell_below HOWN1.out (by dsimp only;omega) _
   ·exact (x6.step own1).snoc (own1 _ _ _ x7)
   ·exact box _ _ _ x3 (by omega) (by omega)
   ·rw [Int.natCast_add];exact box _ _ _ x2 (by omega) (by omega)
   ·exact box _ _ _ (down _ _ _ r1 (by omega)) (by omega) (by omega)
   ·exact box _ _ _ (down _ _ _ r2 (by omega)) (by omega) (by omega)
   ·exact box _ _ _ (down _ _ _ r3 (by omega)) (by omega) (by omega)
   ·exact box _ _ _ (down _ _ _ r4 (by omega)) (by omega) (by omega)
   ·refine plow.trans (Zc.below hspY plow.size fun k hk h=>?_)
    rcases h with h | h
    ·omega
    ·have:=h.1;omega
  ·have hx0:((xe:Int)==0)=false:=by simp;omega
   by_cases hk:xk=0
   ·have hdk:decide (0 < xk)=false:=by simp;omega
    rw [hdk] at hpass
    have HK:=hid hk
    clear hk hdk
    gi_wp2_with (first | rw [HXE.out] | fail)
    refine ⟨trivial,(CallsIn.inRound l (callsIn_wide.2 hpass)).mono ?_⟩
    rintro e X2 ⟨rfl,hg2⟩
    obtain ⟨hsX,y2,y3,y4,y5,y6,y7⟩:=HX.out
    obtain ⟨p1,r1,r2,r3,r4,plow⟩:=HP.out
    have up:∀ (b:Nat) (t:TypeId) (v:Value),Boxed X b t v→Boxed X2 b t v:=fun b t v hb=>(hg2.block _ hb.lt).trans hb
    have down:∀ (b:Nat) (t:TypeId) (v:Value),Boxed Wb b t v→b≠w.heap.size+1+1+1+1+1+1→Boxed X b t v:=fun b t v hb hne=>Zr _ (show Whole Wb b t #[v] from hb) HXE.out hne
    have x2:=up _ _ _ y2
    have x3:=up _ _ _ y3
    have x4:=up _ _ _ y4
    have x5:=Zd y5 hg2
    have x6:=y6.step (w':=X2) fun v n ys h=>Zd h hg2
    have r1:=up _ _ _ (down _ _ _ r1 (by omega))
    have r2:=up _ _ _ (down _ _ _ r2 (by omega))
    have r3:=up _ _ _ (down _ _ _ r3 (by omega))
    have r4:=up _ _ _ (down _ _ _ r4 (by omega))
    have hsX2:=hsX.trans (Zc.grows hg2)
    clear hsX y2 y3 y4 y5 y6 y7 hg2 up down
    have m0:=x4.cell
    have m1:=x3.cell
    have m2:=x2.cell
    have n1:=r1.cell
    have n2:=r1.frozen
    have n3:=r2.cell
    have n4:=r2.frozen
    have n5:=r3.cell
    have n6:=r3.frozen
    have n7:=r4.cell
    have n8:=r4.frozen
    have HX2:=hid (And.intro hsX2 (And.intro x5 (And.intro x6 (And.intro r1 (And.intro r2 (And.intro r3 r4))))))
    clear x2 x3 x4 x5 x6 r1 r2 r3 r4 hsX2 hpass
    gi_wp2_with (fail)
    gi_region_with_o (fail)
    all_goals gi_wp2_with (fail)
    all_goals exact Zuy HX2.out p1 plow (Nat.le_refl _) hx HK.out (by omega) HTS.out
   ·have hdk:decide (0 < xk)=true:=by simp;omega
    rw [hdk] at hpass
    gi_wp2_with (first | rw [HXE.out] | fail)
    refine ⟨trivial,(CallsIn.inRound l (callsIn_wide.2 hpass)).mono ?_⟩
    rintro e X2 ⟨rfl,hg2⟩
    obtain ⟨hsX,y2,y3,y4,y5,y6,y7⟩:=HX.out
    obtain ⟨p1,r1,r2,r3,r4,plow⟩:=HP.out
    have up:∀ (b:Nat) (t:TypeId) (v:Value),Boxed X b t v→Boxed X2 b t v:=fun b t v hb=>(hg2.block _ hb.lt).trans hb
    have down:∀ (b:Nat) (t:TypeId) (v:Value),Boxed Wb b t v→b≠w.heap.size+1+1+1+1+1+1→Boxed X b t v:=fun b t v hb hne=>Zr _ (show Whole Wb b t #[v] from hb) HXE.out hne
    have x2:=up _ _ _ y2
    have x3:=up _ _ _ y3
    have x4:=up _ _ _ y4
    have x5:=Zd y5 hg2
    have x6:=y6.step (w':=X2) fun v n ys h=>Zd h hg2
    have r1:=up _ _ _ (down _ _ _ r1 (by omega))
    have r2:=up _ _ _ (down _ _ _ r2 (by omega))
    have r3:=up _ _ _ (down _ _ _ r3 (by omega))
    have r4:=up _ _ _ (down _ _ _ r4 (by omega))
    have hsX2:=hsX.trans (Zc.grows hg2)
    clear hsX y2 y3 y4 y5 y6 y7 hg2 up down
    have m1:=x3.cell
    have m2:=x3.frozen
    have HX2:=hid (And.intro hsX2 (And.intro x2 (And.intro x3 (And.intro x4 (And.intro x5 (And.intro x6 (And.intro r1 (And.intro r2 (And.intro r3 r4)))))))))
    clear x2 x3 x4 x5 x6 r1 r2 r3 r4 hsX2 hpass
    gi_wp2_with (fail)
    obtain ⟨hsX2,x2,x3,x4,x5,x6,r1,r2,r3,r4⟩:=HX2.out
    obtain ⟨Y,hY⟩:∃ Y,X2.setCell ⟨w.heap.size+1+1+1+1+1,0,none⟩ (.int .i64 ((bd:Int)+1))=Y:=⟨_,rfl⟩
    rw [hY]
    have other:∀ (b:Nat) (t:TypeId) (v:Value),Boxed X2 b t v→b≠w.heap.size+1+1+1+1+1→Boxed Y b t v:=fun b t v hb hne=>Zr _ (show Whole X2 b t #[v] from hb) hY hne
    have hsY:=hsX2.trans (Y8 (n₀:=w.heap.size) (m:=w.heap.size+1+1+1+1+1+1+1) _ hY (by omega) (by omega))
    have kept:∀ (t:TypeId) (size:Nat) (v:Value) (n:Nat) (ys:List Value),X2.ownsRow (w.heap.size+1+1+1+1+1+1+1+1+1) t size v n ys→Y.ownsRow (w.heap.size+1+1+1+1+1+1+1+1+1) t size v n ys:=fun _ _ _ _ _ h=>hY ▸ ownsRow_setCell_below h (by dsimp only;omega) _
    obtain ⟨hgot,hhds,hbad,hend⟩:=HSN.out
    rw [if_neg hx] at hgot hhds hbad
    rw [List.append_nil] at hgot hhds
    refine ⟨hsY.wider fun k _ hk=>.inl hk,Zdc.of (v:=.slice LA ts.length lc) (ts:=ts) (hs:=hs) (bd:=bd+1) (en:=xa+xk) ?_ hhds ?_ ?_ ?_ hsum ?_ (other _ _ _ x4 (by omega)) (kept _ _ _ _ _ x5) (x6.step fun v n ys h=>kept _ _ v n ys h) ?_ ?_ (other _ _ _ r1 (by omega)) (other _ _ _ r2 (by omega)) (other _ _ _ r3 (by omega)) (other _ _ _ r4 (by omega)) ?_⟩
    ·rw [List.map_append];exact hgot
    ·rw [List.map_append];exact hbad
    ·rw [List.map_append];exact hend
    ·intro y hy
     rcases List.mem_append.1 hy with hy | hy
     ·exact p1 y hy
     ·rw [List.mem_singleton.1 hy];exact .inr hk
    ·have:=HSZ.out.resolve_left hk;omega
    ·exact J4 _ x3 hY
    ·rw [Int.natCast_add];exact other _ _ _ x2 (by omega)
    ·exact plow.trans (Zc.below hsY plow.size fun k hk h=>by omega)
 case done =>
  intro D xs W hD hS hi hK
  obtain ⟨p1,-,-,⟨LA,lc,p4,p5⟩,p6,p7,p8,r1,r2,r3,r4,plow⟩:=hi
  have hres:=allE_run (xs.map (·.1)) [] 0 (fun y hy=>by
   obtain ⟨x,hx,rfl⟩:=List.mem_map.1 hy
   exact p1 x hx)
  have hall:allB bs 0=(gotE (xs.map (·.1))++[],badE (xs.map (·.1))+0,endE 0 (xs.map (·.1)),0):=by
   unfold allB
   rw [←hS]
   rw [List.append_nil] at hres
   exact hres
  rw [List.append_nil,Nat.add_zero] at hall
  generalize gotE (xs.map (·.1))=ts at *
  generalize badE (xs.map (·.1))=bd at *
  generalize endE 0 (xs.map (·.1))=en at *
  generalize hdsE xs=hs at *
  have m0:=p4.cell
  have m1:=p7.cell
  have m2:=p8.cell
  have n1:=r1.cell
  have n2:=r1.frozen
  have n3:=r2.cell
  have n4:=r2.frozen
  have n5:=r3.cell
  have n6:=r3.frozen
  have n7:=r4.cell
  have n8:=r4.frozen
  have HP:=hid (And.intro p5 (And.intro p6 (And.intro r1 (And.intro r2 (And.intro r3 (And.intro r4 plow))))))
  have HK:=hid hK
  have HA:=hid hall
  clear p1 p4 p5 p6 p7 p8 r1 r2 r3 r4 plow hK hres hall hS
  gi_wp2_with (fail)
  refine wpIn_wide.2 ?_
  go_region_held3 (fun w'=>w'.cell? ⟨w.heap.size+1+1+1+1,0,none⟩=some (.slice LA ts.length lc)∧w'.cell? ⟨w.heap.size+1+1+1+1+1,0,none⟩=some (.int .i64 (bd:Nat))∧w'.cell? ⟨w.heap.size+1+1+1+1+1+1,0,none⟩=some (.int .i64 (en:Nat))) ((refine ⟨?_,?_,?_⟩ <;> (with_reducible first | exact Zds m0 | exact Zds m1 | exact Zds m2 | (refine Zp8 ?_ (by dsimp only;omega);repeat (first | exact m0 | exact m1 | exact m2 | refine Zjy ?_ (by dsimp only;omega)))))) (fail)
  all_goals gi_wp2_with (fail)
  all_goals
   obtain ⟨p5,p6,r1,r2,r3,r4,plow⟩:=HP.out
   obtain ⟨Y,hY,hs',y1,y2,y3,y4⟩:=Zg5 (v':=.slice LA ts.length lc) (b':=.int .i64 (bd:Nat)) (q':=.int .i64 (en:Nat)) (e':=.int .i64 0) r1 r2 r3 r4
   rw [hY]
   have hKY:Y.heap[D]?=some (.deferred (some [])):=(hs'.same D (Array.getElem?_eq_some_iff.1 HK.out).1 (fun h=>by have:=S9.out;omega)).trans HK.out
   refine ⟨by simp,.inl ⟨_,_,rfl,run_takeDeferred hKY,?_⟩⟩
   have hcw:Zj V.heap.size Y (Y.putObj D (.deferred none)):=.putObj hKY rfl hD _
   have kept:∀ (t:TypeId) (size:Nat) (v:Value) (n:Nat) (ys:List Value),W.ownsRow (w.heap.size+1+1+1+1+1+1+1+1+1) t size v n ys→(Y.putObj D (.deferred none)).ownsRow w.heap.size t size v n ys:=fun t size v n ys h=>by
    refine Zh (hcw.owned ?_) (show w.heap.size≤w.heap.size+1+1+1+1+1+1+1+1+1 by omega)
    obtain ⟨h1,h2⟩:=h
    refine ⟨h1,?_⟩
    rcases h2 with h2 | ⟨g,cap,cur,hv,hb,hh,r⟩
    ·exact .inl h2
    ·exact .inr ⟨g,cap,cur,hv,hb,(hs'.same g (Array.getElem?_eq_some_iff.1 hh).1 (fun h=>by omega)).trans hh,r⟩
   have c1:=(hcw.boxed y1).cell
   have c2:=(hcw.boxed y2).cell
   have c3:=(hcw.boxed y3).cell
   have c4:=(hcw.boxed y4).cell
   rw [HA.out]
   refine ⟨_,by simp [results,Tryz.results149,go_sem,c1,c2,c3,c4],LA,lc,hs,rfl,kept _ _ _ _ _ p5,⟨p6.1,fun i h t hh ht=>kept _ _ _ _ _ (p6.2 i h t hh ht)⟩,plow.trans ((Zc.below hs' plow.size (fun k hk h=>by omega)).trans (hcw.under hnV (Nat.le_trans plow.size hs'.size)))⟩
 case stop =>
  rintro D l W hD ⟨r,hr⟩ ⟨pre,⟨⟨xa,xk,xy,xe⟩,xA,xc⟩,rfl,p1,p2,p3,hres'⟩ hK
  dsimp only at p2 p3 hres'
  have hres:=allE_run (pre.map (·.1)) ((xa,xk,xy,xe) :: r) 0 (fun y hy=>by
   obtain ⟨x,hx,rfl⟩:=List.mem_map.1 hy
   exact p1 x hx)
  rw [List.map_append,List.map_singleton,List.append_assoc,List.singleton_append] at hr
  rw [hr] at hres
  have hall:allB bs 0=(gotE (pre.map (·.1)),badE (pre.map (·.1)),xa,xe):=by
   unfold allB
   rw [hres,allE,if_neg p2,if_pos p3]
   simp
  generalize gotE (pre.map (·.1))=ts at *
  generalize badE (pre.map (·.1))=bd at *
  generalize hdsE pre=hs at *
  have HR:=hid hres'
  have HK:=hid hK
  have HA:=hid hall
  clear hres hall hr p1 p2 p3 hres' hK
  gi_wp2_with (fail)
  obtain ⟨⟨LA,lc,y1,p5⟩,p6,y2,y3,y4,plow⟩:=HR.out
  refine ⟨by simp,.inl ⟨_,_,rfl,run_takeDeferred HK.out,?_⟩⟩
  have hcw:Zj V.heap.size W (W.putObj D (.deferred none)):=.putObj HK.out rfl hD _
  have c1:=(hcw.boxed y1).cell
  have c2:=(hcw.boxed y2).cell
  have c3:=(hcw.boxed y3).cell
  have c4:=(hcw.boxed y4).cell
  rw [HA.out]
  refine ⟨_,by simp [results,Tryz.results149,go_sem,c1,c2,c3,c4],LA,lc,hs,rfl,Zh (hcw.owned p5) (by omega),⟨p6.1,fun i h t hh ht=>Zh (hcw.owned (p6.2 i h t hh ht)) (by omega)⟩,plow.trans (hcw.under hnV plow.size)⟩
end Go.Proofs.YtkelafkbmnjpeaaGreat
