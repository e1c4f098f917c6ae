/-
  Texts that the statements lean on, one behind the other.
-/
import Derived.Test.YtkelafkbmnjpeaaGreatMG30
import Derived.Sort.MapsRangeIn
import Derived.OwnWalkIn
import Derived.TacticsInMore
import Derived.LoopNIn
import Derived.LoopIn
import Derived.Test.YtkelafkbmnjpeaaGreatMG29
set_option linter.unusedSimpArgs false
set_option linter.unusedVariables false
set_option maxHeartbeats 8000000
set_option maxRecDepth 100000
namespace Go.Proofs.YtkelafkbmnjpeaaGreat
open Go.Lib (hid)
open Go.RowKit Go.Shelf Go.Maps Go.Sort
attribute [local go_sem] Oper.semAt_some
theorem Zd7.later {α:Type} {P:Program} {n g:Nat} {lb:Array Value} {encs:α→Array Value} {Gd:List α→α→Prop} {Dead:Nat→Prop} {S:List α→Prop} {w w':World} (h:Zd7 P n g lb encs Gd Dead S w) (hg:Grows w w'):Zd7 P n g lb encs Gd Dead S w' :=
 fun l J Jx W R0 hW=>h l J Jx W R0 (Grows.trans hg hW)
structure Zft (w:World) (pre:List Ht) (R:Nat→Prop) (W:World):Prop where
 list:∃ A c,Boxed W w.heap.size 78 (.slice A pre.length c)∧W.ownsRow (w.heap.size+1) 167 4 (.slice A pre.length c) pre.length (pre.flatMap htE)∧∀ k,R k↔k=w.heap.size∨(Value.slice A pre.length c).ownBlock=some k
 few:0≤pre.length
 low:Below w.heap.size w W
theorem Zft.lt {w:World} {pre:List Ht} {R:Nat→Prop} {W:World} (h:Zft w pre R W):∀ k,R k→w.heap.size≤k∧k < W.heap.size:=by
 obtain ⟨⟨A,c,h1,h2,h3⟩,_,_⟩:=h
 intro k hk
 rcases (h3 k).1 hk with rfl | hk
 ·exact ⟨Nat.le_refl _,h1.lt⟩
 ·have:=Zaw h2 hk;omega
theorem Zft.keep {w:World} {N:Nat} {pre:List Ht} {R:Nat→Prop} {W W':World} (h:Zft w pre R W) (hN:w.heap.size≤N) (hs:OffR N R W W'):Zft w pre R W':=by
 obtain ⟨⟨A,c,h1,h2,h3⟩,h4,h5⟩:=h
 refine ⟨⟨A,c,(Zc.same hs _ h1.lt fun h=>h.2 ((h3 _).2 (.inl rfl))).trans h1,Zba h2 fun k hk=>Zc.same hs k (Zaw h2 hk).2 fun h=>h.2 ((h3 k).2 (.inr hk)),h3⟩,h4,Below.trans h5 ?_⟩
 exact ⟨hs.os,hs.tape,hs.output,hs.size,fun k hk=>Zc.same hs k (Nat.lt_of_lt_of_le hk h5.size) fun h=>by omega⟩
theorem Zii (g:Nat) (lb:Array Value) (Dead:Nat→Prop) (K:Nat) (hK1:K≤1000000) (S:List Ht→Prop) (w:World) (hseq:∀ n,Zd7 Tryz.prog n g lb (fun p:Ht=>#[htV p]) (fun pre _=>pre.length < K) Dead S w) (hdead:∀ k,Dead k→k < w.heap.size)
 (eg:∀ args w,(callFunc g args).run Tryz.prog w=.ok (.enter g args) w) :
 Calls Tryz.prog 305 #[.slice none 0 0,.func (.func g) #[] lb] w fun e w'=>∃ A c xs,S xs∧e=.returned (.slice A xs.length c)∧w'.ownsRow w.heap.size 167 4 (.slice A xs.length c) xs.length (xs.flatMap htE)∧Below w.heap.size w w':=by
 obtain ⟨W1,hW1⟩:∃ W1,w.alloc (.cells #[.slice none 0 0] 78)=W1:=⟨_,rfl⟩
 have g1:Grows w W1:=hW1 ▸ Zb _ _
 have s1:W1.heap.size=w.heap.size+1:=by rw [←hW1,World.size_alloc]
 have b1:Boxed W1 w.heap.size 78 (.slice none 0 0):=by rw [←hW1];exact Boxed.new _ _ _
 have h0:Zft w [] (fun k=>k=w.heap.size) W1:=⟨⟨none,0,b1,World.ownsRow_nil _ _ _ _,fun k=>⟨.inl,fun h=>h.elim id fun h=>by cases h⟩⟩,Nat.zero_le _,g1⟩
 have H0:=hid h0
 have HG:=hid (fun n=>(hseq n).later g1)
 have HD:=hid hdead
 have S1:=hid s1
 clear h0 b1 g1 hseq hdead s1
 refine (callsIn_wide (n:=3)).1 ?_
 refine callsIn_of_wp_marks Tryz.func305 rfl trivial ?_ rfl
 simp only [Tryz.ntmps305,List.size_toArray,List.length_cons,List.length_nil,Nat.reduceAdd,Nat.reduceSub,Array.replicate_succ,Array.replicate_zero,List.push_toArray,List.append_toArray,List.nil_append,List.cons_append]
 gi_wp2_with (first | rw [hW1] | fail)
 refine Zhg (gf:=g) (lb:=lb) rfl eg (HG.out 2) (fun _=>rfl) (fun k=>k=w.heap.size) ?dead (Zft w) (fun _ _ _=>False) (fun s R A' h k hk=>(h.lt k hk).2)
  (fun s R A' B' h hs=>h.keep (by rw [S1.out];omega) hs) (fun _ _ _ _ h _=>h) H0.out ?round ?done (fun _ _ _ _ _ _ h _=>h.elim)
 case dead=>exact fun k hk=>⟨by have:=HD.out k hk;rw [S1.out];omega,fun e=>by have:=HD.out k hk;omega⟩
 case round =>
  rintro l pre R ⟨pk,ps,pa,pz⟩ W hsz hi hgd
  dsimp only [htV]
  gi_wp2_with (fail)
  obtain ⟨Wa,hWa⟩:∃ Wa,W.alloc (.cells #[.int .i64 pk,.string ⟨ps.toArray⟩,.int .i64 pa,.int .i64 pz] 167)=Wa:=⟨_,rfl⟩
  rw [hWa]
  have ga:Grows W Wa:=hWa ▸ Zb _ _
  have sa:Wa.heap.size=W.heap.size+1:=by rw [←hWa,World.size_alloc]
  have hv:Whole Wa W.heap.size 167 #[.int .i64 pk,.string ⟨ps.toArray⟩,.int .i64 pa,.int .i64 pz]:=by rw [←hWa];exact Whole.made _ _ _
  refine ⟨ga,fun Wb hsp hib=>?_⟩
  obtain ⟨⟨A,c,hb,ho,hR⟩,hle,hlow⟩:=hib
  have hlt:=hi.lt
  have hvb:Whole Wb W.heap.size 167 #[.int .i64 pk,.string ⟨ps.toArray⟩,.int .i64 pa,.int .i64 pz]:=(hsp.same _ hv.lt (by omega)).trans hv
  have c1:=hb.cell
  have e0:=hvb.cell 0
  have e1:=hvb.cell 1
  have e2:=hvb.cell 2
  have e3:=hvb.cell 3
  simp only [Gt] at e0 e1 e2 e3
  obtain ⟨i0,hi0,hz0,hz1,hz2⟩:=Zra infoHt
  have HI:=hid (And.intro hi0 (And.intro hz0 (And.intro hz1 hz2)))
  have HB:=hid (And.intro hb (And.intro ho (And.intro hR (And.intro hlow (And.intro hlt (And.intro sa (And.intro hsz hsp.size)))))))
  have HGD:=hid hgd
  clear hb ho hR hle hlow hv hvb hi0 hz0 hz1 hz2 hi ga hlt hsz sa hsp hgd
  gi_wp2_with (first
   | (gi_at_builtin
      refine Zd0 rfl (.tmp 8) (.tmp 10) 78 rfl (w.heap.size+1) 167 i0 (.agg #[.int .i64 0,.string ⟨#[]⟩,.int .i64 0,.int .i64 0]) 4 40 Tryz.underlying78 HI.out.1 HI.out.2.1 HI.out.2.2.1 HI.out.2.2.2 rfl (by decide) (.slice A pre.length c) pre.length (pre.flatMap htE) rfl
       (Zd HB.out.2.1 (Zb _ _)) ⟨Wb.heap.size,0,none⟩ 1 1 (htE ⟨pk,ps,pa,pz⟩) rfl rfl (ht_at (x:=⟨pk,ps,pa,pz⟩) (Whole.made Wb _ _)) (Zlh _) (by unfold maxLen;have:=HGD.out;omega) (by have:=HGD.out;omega) (by rw [World.size_alloc];have:=HB.out.2.2.2.1.size;have:=HB.out.1.lt;omega) ?_
      intro A1 cap1 w1 hown1 hgrow1 hdj
      have y4:Boxed w1 w.heap.size 78 (.slice A pre.length c):=(hgrow1.block _ (by rw [World.size_alloc];have:=HB.out.1.lt;omega) (fun e=>by have:=Zaw HB.out.2.1 e.symm;omega)).trans ((Zb _ _).block _ HB.out.1.lt |>.trans HB.out.1)
      have z4:=y4.cell
      have z5:=y4.frozen
      have HY4:=hid y4
      have HOWN1:=hid (And.intro hown1 (And.intro hgrow1 hdj))
      clear y4 hown1 hgrow1 hdj)
   | fail)
  obtain ⟨hb,ho,hR,hlow,hlt,sa,hsz,hspz⟩:=HB.out
  obtain ⟨hown1,hgrow1,hdj⟩:=HOWN1.out
  obtain ⟨Y,hY⟩:∃ Y,w1.setCell ⟨w.heap.size,0,none⟩ (.slice A1 (pre.length+1) cap1)=Y:=⟨_,rfl⟩
  rw [hY]
  have hsY:Y.heap.size=w1.heap.size:=by rw [←hY];simp [World.setCell]
  have hsw:Wb.heap.size+1≤w1.heap.size:=by have:=hgrow1.size;rwa [World.size_alloc] at this
  have hR0:R w.heap.size:=(hR _).2 (.inl rfl)
  have hsY2:Zc (fun k=>R k∨W.heap.size≤k) Wb Y:=by
   rw [←hY]
   exact ((Zc.grows (Zb _ _)).grown hgrow1 (fun k hk=>.inl ((hR k).2 (.inr hk)))).setCell (.inl hR0) _
  have hsub:∀ k,(k=w.heap.size∨(Value.slice A1 (pre.length+1) cap1).ownBlock=some k)→R k∨W.heap.size≤k:=fun k hk=>by
   rcases hk with rfl | hk
   ·exact .inl hR0
   ·rcases hdj with h | h
    ·exact .inl ((hR k).2 (.inr (h ▸ hk)))
    ·rw [h,World.size_alloc] at hk
     injection hk with hk
     right;omega
  refine ⟨fun k=>k=w.heap.size∨(Value.slice A1 (pre.length+1) cap1).ownBlock=some k,hsub,hsY2,⟨A1,cap1,?_,?_,?_⟩,?_,?_⟩
  ·rw [List.length_append,List.length_singleton,←hY]
   exact Whole.put (show Whole w1 w.heap.size _ #[_] from HY4.out) 0 _
  ·rw [List.length_append,List.length_singleton,Zj5,←hY]
   refine Zba hown1 fun k hk=>Below.heap_setCell _ _ _ _ ?_
   have:=(Zaw hown1 hk).1
   dsimp only
   omega
  ·intro k
   rw [List.length_append,List.length_singleton]
  ·rw [List.length_append,List.length_singleton]
   have:=HGD.out
   omega
  ·exact ⟨hsY2.os.trans hlow.os,hsY2.tape.trans hlow.tape,hsY2.output.trans hlow.output,Nat.le_trans hlow.size hsY2.size,fun k hk=>(hsY2.same k (Nat.lt_of_lt_of_le hk hlow.size) fun h=>h.elim (fun h=>by have:=(hlt k h).1;omega) fun h=>by have:=(hlt _ hR0).2;omega).trans (hlow.block k hk)⟩
 case done =>
  intro D xs R W hD hnD hS hi hK
  have HSS:=hid hS
  clear hS
  obtain ⟨⟨A,c,hb,ho,hR⟩,hle,hlow⟩:=hi
  have c1:=hb.cell
  have HA:=hid (And.intro ho (And.intro hR (And.intro hlow (And.intro hK (And.intro hD hnD)))))
  clear hb ho hR hle hlow hK hD hnD
  gi_wp2_with (fail)
  obtain ⟨ho,hR,hlow,hK,hD,hnD⟩:=HA.out
  have hDs:Zc (fun k=>k=D) W (W.putObj D (.deferred none)):=⟨rfl,rfl,rfl,by simp,fun k _ hk=>World.putObj_heap_other hk⟩
  refine ⟨by simp,.inl ⟨_,_,rfl,run_takeDeferred hK,?_⟩⟩
  refine ⟨.slice A xs.length c,by simp [results,Tryz.results305,go_sem],A,c,xs,HSS.out,rfl,Zh (Zba ho fun k hk=>hDs.same k (Zaw ho hk).2 fun e=>hnD ((hR D).2 (.inr (e ▸ hk)))) (by omega),?_⟩
  exact ⟨hlow.os,hlow.tape,hlow.output,Nat.le_trans hlow.size hDs.size,fun k hk=>(hDs.same k (Nat.lt_of_lt_of_le hk hlow.size) fun e=>by have:=S1.out;omega).trans (hlow.block k hk)⟩
theorem Zle (g:Nat) (lb:Array Value) (Dead:Nat→Prop) (K:Nat) (hK1:K≤1000000) (S:List Ht→Prop) (w:World) (hseq:∀ n,Zd7 Tryz.prog n g lb (fun p:Ht=>#[htV p]) (fun pre _=>pre.length < K) Dead S w) (hdead:∀ k,Dead k→k < w.heap.size)
 (eg:∀ args w,(callFunc g args).run Tryz.prog w=.ok (.enter g args) w) :
 Calls Tryz.prog 268 #[.func (.func g) #[] lb] w fun e w'=>∃ A c xs,S xs∧e=.returned (.slice A xs.length c)∧w'.ownsRow w.heap.size 167 4 (.slice A xs.length c) xs.length (xs.flatMap htE)∧Below w.heap.size w w':=by
 have HA:=hid (Zii g lb Dead K hK1 S w hseq hdead eg)
 clear hseq hdead
 go_enter Tryz.func268,Tryz.ntmps268
 go_wp2_with (fail)
 refine HA.out.mono ?_
 rintro e w' ⟨A,c,xs,hS,rfl,h1,h2⟩
 have H1:=hid (And.intro h1 (And.intro h2 hS))
 clear h1 h2 hS
 go_wp2_with (fail)
 go_ret
 exact ⟨A,c,xs,H1.out.2.2,rfl,H1.out.1,H1.out.2.1⟩
theorem Zlf {P:Program} {n k l f:Nat} {tmps:Array Value} {assign body:Code} {w:World} {R:Ending→World→Prop} (h:RoundIn Fence.wide n P l f tmps assign body w R):RoundIn Fence.wide k P l f tmps assign body w R :=
 ⟨h.1,fun c cs _=>h.2 c cs fun d hd=>by cases hd⟩
theorem Zn3 (b:Nat) (w:World):Calls Tryz.prog 208 #[.map (some b)] w fun e w' =>
 e=.returned (.func (.func 270) #[] #[.pointer (some ⟨w.heap.size,0,none⟩)])∧w.alloc (.cells #[.map (some b)] 238)=w':=by
 go_enter Tryz.func208,Tryz.ntmps208
 go_wp2_with (fail)
 go_ret
 exact ⟨rfl,rfl⟩
abbrev OwnsH (w:World) (b nn:Nat) (hs:List Ht):Prop:=w.ownsMap Tryz.prog 9 (htR (H:=Unit)) b nn (encH hs)
theorem Zj3 {w w':World} {b r nn cnt:Nat} {D:DataW Unit} {left:Lit→Bool} (h:w.ranges Tryz.prog 9 (htR (H:=Unit)) b r nn D left cnt) (hb:w'.heap[b]?=w.heap[b]?) (hr:w'.heap[r]?=w.heap[r]?):w'.ranges Tryz.prog 9 (htR (H:=Unit)) b r nn D left cnt:=by
 obtain ⟨es,clock,since,seen,c0,h1,h2,h3,h4,h5,h6⟩:=h
 exact ⟨es,clock,since,seen,c0,hb.trans h1,h2,h3,h4,hr.trans h5,h6⟩
theorem Zvm {hs:List Ht} {x:List UInt8} {c:Ht} (hat:∀ zd:DataW Unit,(encH hs).atKey (.string x) zd=htD c):c∈hs∧c.key=x:=by
 have h1:=hat (htD c)
 rw [Zqj] at h1
 cases hf:hfind x hs with
 | some y =>
   rw [hf] at h1
   have h2:y=c:=Zqi h1
   subst h2
   unfold hfind at hf
   exact ⟨List.mem_of_find?_eq_some hf,by simpa using List.find?_some hf⟩
 | none =>
   exfalso
   have h2:=hat (.lit (.bool true))
   rw [Zqj,hf] at h2
   exact absurd h2 (by unfold htD;simp)
theorem Zb2 {w w':World} {b nn:Nat} {hs:List Ht} (h:OwnsH w b nn hs) (hb:w'.heap[b]?=w.heap[b]?):OwnsH w' b nn hs:=by
 obtain ⟨es,clock,h1,h2⟩:=h
 exact ⟨es,clock,hb.trans h1,h2⟩
theorem hJ0 {J:List Ht→(Nat→Prop)→World→Prop} {n0:Nat} (hJ:∀ (s:List Ht) (R:Nat→Prop) (A B:World),J s R A→OffR n0 R A B→J s R B) {s:List Ht} {R:Nat→Prop} {A B:World} (h:J s R A) (hs:Zc (fun k=>n0≤k∧¬ R k) A B):J s R B:=hJ _ _ _ _ h hs
theorem Zj4 (n B1 b nn:Nat) (hs:List Ht) (w:World) (hbx:Boxed w B1 238 (.map (some b))) (hown:OwnsH w b nn hs) (hrise:Zbg hs) :
 Zd7 Tryz.prog n 270 #[.pointer (some ⟨B1,0,none⟩)] (fun x:Ht=>#[htV x]) (fun pre _=>pre.length < hs.length) (fun k=>k=B1∨k=b)
  (fun xs=>(xs.map (·.key)).Nodup∧(∀ h,h∈xs↔h∈hs)∧xs.length≤hs.length) w:=by
 intro l J Jx W R0 hW hD hlt hJ hJx hY h0
 have hbW:Boxed W B1 238 (.map (some b)):=(hW.block _ hbx.lt).trans hbx
 have cb:=hbW.cell
 have hbl:b < w.heap.size:=World.ownsMap.lt hown
 have hownW:OwnsH W b nn hs:=Zb2 hown (hW.block b hbl)
 have HY:=hid hY
 have HJ:=hid hJ
 have HLT:=hid hlt
 have HW:=hid (And.intro hbW (And.intro hownW (Nat.lt_of_lt_of_le hbl hW.size)))
 have HD:=hid hD
 have HRI:=hid hrise
 clear hbx hown hW hY hbW hJ hD hlt hrise hbl
 show CallsIn _ _ _ _ #[.func (.yield l) #[] #[],.pointer (some ⟨B1,0,none⟩)] _ _
 refine callsIn_of_wp Tryz.func270 rfl trivial ?_ rfl
 simp only [Tryz.ntmps270,List.size_toArray,List.length_cons,List.length_nil,Nat.reduceAdd,Nat.reduceSub,Array.replicate_succ,Array.replicate_zero,List.push_toArray,List.append_toArray,List.nil_append,List.cons_append]
 gi_wp2_with (first
  | (gi_at_range;refine wpListIn_range_own _ rfl _ 238 rfl 9 167 (string_keyed Tryz.underlying9) Tryz.underlying238 _ b nn _ rfl hownW ?_;intro w0 hrg0 hg0 hs0)
  | gi_in)
 have HN0:=hid (And.intro (show Grows W w0 from ⟨hg0.os,hg0.tape,hg0.output,hg0.size,fun k hk=>hg0.block k hk (by simp)⟩) hs0)
 have h0':=hJ0 HJ.out h0 (Zc.grows HN0.out.1)
 have HRG0:=hid hrg0
 have HJ0:=hid h0'
 have HLT0:=hid (HLT.out _ _ _ h0)
 clear h0 h0' hg0 hs0 hownW
 gi_loopw [4] (fun _ wr=>∃ (left:Lit→Bool) (cnt:Nat) (pre:List Ht) (R:Nat→Prop),Hid (wr.ranges Tryz.prog 9 (htR (H:=Unit)) b W.heap.size nn (encH hs) left cnt)∧Hid (pre.length+cnt≤hs.length)∧Hid (Collected (encH (H:=Unit) hs) left (pre.map (·.key)))∧Hid (∀ x∈pre,x∈hs)∧Hid (J pre R wr)∧Hid (∀ k,R k→R0 k∨W.heap.size < k)∧Hid (W.heap.size < wr.heap.size))
  (fun _ wr=>wr.rangeLeft b W.heap.size)
 case atStart =>
  exact ⟨_,_,[],R0,HRG0,hid (by simp [Zqk]),hid (Collected.start (encH hs)),hid (fun x hx=>by cases hx),HJ0,hid (fun k hk=>.inl hk),hid (by rw [HN0.out.2];omega)⟩
 case round =>
  obtain ⟨left,cnt,pre,R,HRG,HCN,HC,HM,HJP,HRR,HSZ⟩:=hrel
  have hrg:=HRG.out
  gi_wp2_with (first
   | (gi_at_next;refine wpListIn_next_ranges _ rfl _ rfl 9 (string_keyed Tryz.underlying9) (htR (H:=Unit)) encStr htV (fun key kl hk=>by obtain ⟨x,hx,_⟩:=Maps.keyOf_str Tryz.underlying9 hk;exact ⟨x,hx⟩) (fun v y hv=>by obtain ⟨c,hc,_⟩:=Zqh hv;exact ⟨c,hc⟩) b W.heap.size nn _ _ _ rfl hrg ?_ ?_)
   | gi_in)
  ·intro hc0 hl0
   have HL0:=hid hl0
   clear hl0
   gi_wp2_with (fail)
   go_end0
   refine ⟨⟨_,rfl⟩,.inl ⟨pre,R,⟨HC.out.1,fun h=>⟨HM.out h,fun hh=>?_⟩,by have:=HCN.out;omega⟩,HJP.out⟩⟩
   have hp:=HC.out.perm HRG.out.owns (string_keyed Tryz.underlying9) Tryz.underlying9 HL0.out
   rw [Zql] at hp
   obtain ⟨x,hx,hk⟩:=List.mem_map.1 (hp.mem_iff.2 (List.mem_map.2 ⟨h,hh,rfl⟩))
   rw [←Zs3 HRI.out (HM.out x hx) hh hk]
   exact hx
  ·intro x c kl yd yp w2 cnt2 hkey hlk hv hat hrg2 hlt2 hg2 hs2 hen
   obtain ⟨x',ex,rfl,_⟩:=Maps.keyOf_str Tryz.underlying9 hkey
   obtain rfl:x=x':=encStr_inj ex
   obtain ⟨c',ec,ez⟩:=Zqh hv
   have hcc:htD (H:=Unit) c=htD c':=by
    have h1:=Zt4 (H:=Unit) c
    rw [hv] at h1
    rw [Option.some.injEq] at h1
    exact ((Prod.mk.inj h1).1.symm.trans (Prod.mk.inj ez).1)
   obtain rfl:c=c':=Zqi hcc
   obtain rfl:yd=htD c:=(Prod.mk.inj ez).1
   obtain ⟨hmem,hkc⟩:=Zvm hat
   have HQ:=hid (And.intro hmem hkc)
   have HRG2:=hid hrg2
   have HLT2:=hid hlt2
   have hRr:¬ R W.heap.size:=fun h=>by
    rcases HRR.out _ h with h | h
    ·exact absurd (HLT0.out _ h) (by omega)
    ·omega
   have HC2:=hid (show Collected (encH (H:=Unit) hs) (fun z=>left z&&!z.sameKey (.string x)) ((pre++[c]).map (·.key)) by
    have:=HC.out.step hlk hat
    rw [List.map_append,List.map_cons,List.map_nil,hkc]
    exact this)
   have hJ2:J pre R w2:=hJ0 HJ.out HJP.out ((Zc.refl _ wr).grown hg2 (fun k hk=>by cases hk;exact ⟨Nat.le_refl _,hRr⟩))
   have h2s:=HSZ.out
   obtain ⟨ck,cs,ca,cz⟩:=c
   obtain ⟨W1,hW1⟩:∃ W1,w2.alloc (.cells #[.int .i64 ck,.string ⟨cs.toArray⟩,.int .i64 ca,.int .i64 cz] 167)=W1:=⟨_,rfl⟩
   have hg1:Grows w2 W1:=hW1 ▸ Zb _ _
   have hm1:Whole W1 w2.heap.size 167 #[.int .i64 ck,.string ⟨cs.toArray⟩,.int .i64 ca,.int .i64 cz]:=by rw [←hW1];exact Whole.made _ _ _
   have m0:=hm1.cell 0
   have m1:=hm1.cell 1
   have m2:=hm1.cell 2
   have m3:=hm1.cell 3
   simp only [Gt] at m0 m1 m2 m3
   have hJ1:J pre R W1:=hJ0 HJ.out hJ2 (Zc.grows hg1)
   have hpl:pre.length < hs.length:=by
    have h3:=HCN.out
    omega
   obtain ⟨fn,tmps,assign,body,hy,hR⟩:=HY.out pre R ⟨ck,cs,ca,cz⟩ W1 hJ1 hpl
   have HG1:=hid hg1
   have HRD:=hid hR
   have HZ:=hid (And.intro hs2 h2s)
   dsimp only [htV] at hy hen
   clear hRr hJ2 hJ1 hg1 hm1 hR hmem hkc hcc ez ec hv hat hlk hkey hrg2 hg2 hrg hpl h2s hs2 hlt2
   dsimp only [htV]
   gi_wp2_with (first | rw [hW1] | fail)
   clear hW1 m0 m1 m2 m3
   refine ⟨(fun h=>by cases h),RoundIn.mono (Zlf HRD.out) ?_⟩
   rintro e W' ⟨R',hr',hs',(⟨rfl,hj'⟩ | ⟨rfl,hjx⟩)⟩
   ·have HN2:=hid (And.intro hj' (And.intro hs' hr'))
    clear hj' hs' hr' HRD hy
    gi_wp2_with (fail)
    have hbR:¬ R b:=fun h=>by
     rcases HRR.out _ h with h | h
     ·exact HD.out _ h (.inr rfl)
     ·have:=HW.out.2.2;omega
    have hrR:¬ R W.heap.size:=fun h=>by
     rcases HRR.out _ h with h | h
     ·exact absurd (HLT0.out _ h) (by omega)
     ·omega
    have z1:=HZ.out
    have hbl:b < w2.heap.size:=by have:=HW.out.2.2;omega
    have hrl:W.heap.size < w2.heap.size:=by omega
    have hrg3:W'.ranges Tryz.prog 9 (htR (H:=Unit)) b W.heap.size nn (encH hs) _ cnt2:=Zj3 HRG2.out
     ((HN2.out.2.1.same b (Nat.lt_of_lt_of_le hbl HG1.out.size) hbR).trans (HG1.out.block b hbl))
     ((HN2.out.2.1.same W.heap.size (Nat.lt_of_lt_of_le hrl HG1.out.size) hrR).trans (HG1.out.block W.heap.size hrl))
    have hmeas:W'.rangeLeft b W.heap.size < wr.rangeLeft b W.heap.size:=by rw [hrg3.left_eq,HRG.out.left_eq];exact HLT2.out
    have hsz2:w2.heap.size≤W'.heap.size:=Nat.le_trans HG1.out.size HN2.out.2.1.size
    go_roundw
    case rel =>
     refine ⟨_,cnt2,pre++[⟨ck,cs,ca,cz⟩],R',hid hrg3,hid ?_,HC2,hid fun y hy=>?_,hid HN2.out.1,hid fun k hk=>?_,hid (by omega)⟩
     ·have:=HCN.out
      have:=HLT2.out
      rw [List.length_append,List.length_singleton]
      omega
     ·rcases List.mem_append.1 hy with h | h
      ·exact HM.out y h
      ·rw [List.mem_singleton.1 h];exact HQ.out.1
     ·rcases HN2.out.2.2 k hk with h | h
      ·exact HRR.out k h
      ·have:=HG1.out.size
       exact .inr (by omega)
    case measure=>exact hmeas
   ·gi_wp2_with (fail)
    refine bodyPost_ret (results_none rfl _ _ _) rfl ?_
    exact ⟨⟨_,rfl⟩,.inr ⟨_,_,hjx⟩⟩
end Go.Proofs.YtkelafkbmnjpeaaGreat
set_option maxHeartbeats 8000000
set_option maxRecDepth 100000
namespace Go.Proofs.YtkelafkbmnjpeaaGreat
open Go.Lib (hid)
open Go.RowKit Go.Shelf Go.Maps Go.Sort Go.WideMaps
theorem Zn2 {hs xs l':List Ht} (hr:Zbg hs) (hn:(xs.map (·.key)).Nodup) (hm:∀ h,h∈xs↔h∈hs) (hp:l'.Perm xs) (hs':l'.Pairwise fun x y=>bytesBefore y.key x.key=false):l'=hs:=by
 refine rise_same ?_ hr fun h=>(hp.mem_iff).trans (hm h)
 have h1:(l'.map (·.key)).Nodup:=(hp.map _).nodup_iff.2 hn
 have h2:l'.Pairwise fun x y=>x.key≠y.key:=List.pairwise_map.1 h1
 exact (hs'.and h2).imp fun ⟨a,b⟩=>hbef_total a fun e=>b e.symm
theorem Zgb (b nn:Nat) (hs:List Ht) (w:World) (B1:Nat) (hbx:Boxed w B1 238 (.map (some b))) (hown:OwnsH w b nn hs) (hrise:Zbg hs) (hk:hs.length≤1000000) :
 Calls Tryz.prog 207 #[.func (.func 270) #[] #[.pointer (some ⟨B1,0,none⟩)],.func (.func 209) #[] #[]] w fun e w' =>
  ∃ A c,e=.returned (.slice A hs.length c)∧w'.ownsRow w.heap.size 167 4 (.slice A hs.length c) hs.length (hs.flatMap htE)∧Grows w w':=by
 have hbl:b < w.heap.size:=World.ownsMap.lt hown
 have hB1:=hbx.lt
 have HCO:=hid (Zle 270 #[.pointer (some ⟨B1,0,none⟩)] (fun k=>k=B1∨k=b) hs.length hk _ w (fun n=>Zj4 n B1 b nn hs w hbx hown hrise)
  (fun k hk=>by rcases hk with rfl | rfl <;> assumption) (enters_of Tryz.func270 (by kernel_rfl) rfl))
 have HRI:=hid hrise
 clear hbx hown hrise hbl hB1
 go_enter Tryz.func207,Tryz.ntmps207
 go_wp2_with (fail)
 refine HCO.out.mono ?_
 rintro e w1 ⟨A,c,xs,⟨hnd,hme,hxl⟩,rfl,ho1,hb1⟩
 have HS:=hid (Zre w.heap.size A xs.length c xs w1 ho1 (by omega))
 have HX:=hid (And.intro hnd (And.intro hme hb1))
 clear hnd hme hxl ho1 hb1
 go_wp2_with (fail)
 refine HS.out.mono ?_
 rintro e w2 ⟨rfl,l',hp,hs',ho2,hb2⟩
 have he:=Zn2 HRI.out HX.out.1 HX.out.2.1 hp hs'
 subst he
 have hlen:xs.length=l'.length:=hp.length_eq.symm
 have HF:=hid (And.intro ho2 (And.intro (Below.trans HX.out.2.2 (hb2 _ (Nat.le_refl _))) hlen))
 clear hp hs' ho2 hb2 hlen
 go_wp2_with (fail)
 go_ret
 refine ⟨A,c,?_,?_,HF.out.2.1⟩
 ·show Ending.returned (.slice A xs.length c)=_
  rw [HF.out.2.2]
 ·have:=HF.out.1
  rw [HF.out.2.2] at this
  exact this
theorem Zu3 {n:List UInt8} (hn:n.length≤maxLen):keyOf Tryz.prog 9 (.string ⟨n.toArray⟩)=some (.string n):=by
 have:=keyOf_string_mk (P:=Tryz.prog) (k:=9) Tryz.underlying9 (s:=⟨n.toArray⟩) (by simpa [ByteArray.size] using hn)
 simpa using this
theorem Ztj (A:Option Addr) (n c:Nat) (l:List Fd) (w:World) (h:Fds w A n c l) (hn:n≤100000) :
 Calls Tryz.prog 137 #[.slice A n c] w fun e w'=>∃ A' c',e=.returned (.slice A' (hofP l).length c') ∧
  w'.ownsRow w.heap.size 167 4 (.slice A' (hofP l).length c') (hofP l).length ((hofP l).flatMap htE)∧Grows w w':=by
 have HX:=hid h
 have hlen:=h.len
 have hmade:=World.ownsMap_made w Tryz.prog 9 (htR (H:=Unit))
 have hg0:=Zb w (.map #[] 0)
 obtain ⟨W0,hW0⟩:∃ y,w.alloc (.map #[] 0)=y:=⟨_,rfl⟩
 rw [hW0] at hmade hg0
 have HM0:=hid (And.intro hmade hg0)
 have hmk:(Instr.makeMap 238 none).run Tryz.prog w=.ok (.map (some w.heap.size)) W0:=by
  rw [←hW0]
  kernel_rfl
 clear h hmade hg0 hW0
 go_enter Tryz.func137,Tryz.ntmps137
 go_wp2_with (fail)
 go_loopw [9] (fun i wr=>∃ (j:Nat),j≤n∧i=.int .i64 (j:Nat)∧Hid (OwnsH wr w.heap.size j (hofP (l.take j)))∧Hid (Grows w wr)) (fun i _=>n - (intOf i).toNat)
 case atStart=>exact ⟨0,by omega,rfl,hid (show OwnsH W0 w.heap.size 0 [] from HM0.out.1),hid HM0.out.2⟩
 case round =>
  obtain ⟨j,hj,rfl,HO,HG⟩:=hrel
  by_cases hlt:j < n
  ·obtain ⟨ad,x,rfl,hx,hb,hc⟩:=Fds.at (HX.out.grow HG.out) hlt
   have k0:(0:Int)≤(j:Int):=by omega
   have k1:(j:Int) < (n:Int):=by omega
   obtain ⟨c0,c1,c2,c3,c4,c5,c6,c7,c8⟩:=hc _ (Below.refl _ _)
   have htk:l.take (j+1)=l.take j++[x]:=by rw [List.take_add_one,hx];rfl
   have HOF:=hid (show hofP (l.take (j+1))=if toldF x=true then hput (Zbe x) (hofP (l.take j)) else hofP (l.take j) by rw [htk,Zeh])
   obtain ⟨xa,xz,xk,xs,xi,xn,xq,⟨la,ln,lc⟩,⟨ba,bn,bc⟩⟩:=x
   dsimp only at c0 c1 c2 c3 c4 c5 c6 c7 c8
   have hm:=Whole.made wr 145 #[.int .i64 xa,.int .i64 xz,.int .i64 xk,.string ⟨xs.toArray⟩,.int .i64 xi,.int .i64 xn,.int .i64 xq,.slice la ln lc,.slice ba bn bc]
   have hg1:=Zb wr (.cells #[.int .i64 xa,.int .i64 xz,.int .i64 xk,.string ⟨xs.toArray⟩,.int .i64 xi,.int .i64 xn,.int .i64 xq,.slice la ln lc,.slice ba bn bc] 145)
   obtain ⟨W1,hW1⟩:∃ z,wr.alloc (.cells #[.int .i64 xa,.int .i64 xz,.int .i64 xk,.string ⟨xs.toArray⟩,.int .i64 xi,.int .i64 xn,.int .i64 xq,.slice la ln lc,.slice ba bn bc] 145)=z:=⟨_,rfl⟩
   rw [hW1] at hm hg1
   have HC:=hid (fun w' (hC:Grows W1 w')=>by
    have h1:=hC.whole hm
    exact (⟨h1.cell 0,h1.cell 1,h1.cell 2,h1.cell 3⟩:w'.cell? { block:=wr.heap.size,off:=0 }=some (.int .i64 xa)∧w'.cell? { block:=wr.heap.size,off:=1 }=some (.int .i64 xz)∧w'.cell? { block:=wr.heap.size,off:=2 }=some (.int .i64 xk)∧w'.cell? { block:=wr.heap.size,off:=3 }=some (.string ⟨xs.toArray⟩)))
   have HG1:=hid (And.intro (Zb2 HO.out (hg1.block _ (World.ownsMap.lt HO.out))) (Below.trans HG.out (hg1.mono HG.out.size)))
   obtain ⟨b1,hb1⟩:∃ b,J5 xk=b:=⟨_,rfl⟩
   obtain ⟨b2,hb2⟩:∃ b,keyB xs=b:=⟨_,rfl⟩
   have H1:=hid (fun w'=>hb1 ▸ Zhc xk w')
   have H2:=hid (fun w'=>hb2 ▸ Zms xs w')
   have HTF:=hid (show toldF ⟨xa,xz,xk,xs,xi,xn,xq,(la,ln,lc),(ba,bn,bc)⟩=(b1&&b2) by unfold toldF;dsimp only;rw [hb1,hb2])
   obtain ⟨m0,m1,m2,m3⟩:=HC.out W1 (Below.refl _ _)
   clear hm hg1 hb1 hb2 hc hb hx htk
   go_wp2_with (fail)
   clear hW1
   refine (H1.out W1).mono ?_
   rintro e w2 ⟨rfl,hg2⟩
   have HG2:=hid (And.intro hg2 (And.intro (Zb2 HG1.out.1 (hg2.block _ (World.ownsMap.lt HG1.out.1))) (Below.trans HG1.out.2 (hg2.mono HG1.out.2.size))))
   clear m0 m1 m2 m3
   obtain ⟨m0,m1,m2,m3⟩:=HC.out w2 hg2
   clear hg2
   cases b1
   ·go_wp2_with (fail)
    go_roundw
    case rel=>exact ⟨j+1,by omega,by go_num,hid (by rw [HOF.out,HTF.out];exact HG2.out.2.1.mono (by omega)),hid HG2.out.2.2⟩
    case measure=>simp [intOf];omega
   go_wp2_with (fail)
   refine (H2.out w2).mono ?_
   rintro e w3 ⟨rfl,hg3⟩
   have HG3:=hid (And.intro (Zb2 HG2.out.2.1 (hg3.block _ (World.ownsMap.lt HG2.out.2.1))) (Below.trans HG2.out.2.2 (hg3.mono HG2.out.2.2.size)))
   clear m0 m1 m2 m3
   obtain ⟨m0,m1,m2,m3⟩:=HC.out w3 (HG2.out.1.trans hg3)
   clear hg3
   cases b2
   ·go_wp2_with (fail)
    go_roundw
    case rel=>exact ⟨j+1,by omega,by go_num,hid (by rw [HOF.out,HTF.out];exact HG3.out.1.mono (by omega)),hid HG3.out.2⟩
    case measure=>simp [intOf];omega
   have hkx:xs.length≤64:=by
    have h1:=HTF.out
    simp only [toldF,keyB,Bool.and_eq_true,decide_eq_true_eq,Bool.and_self] at h1
    exact h1.2.2
   have hkey:=Zu3 (n:=xs) (by unfold maxLen;omega)
   clear hkx
   have hval:=Zt4 (H:=Unit) ⟨xk,xs,xa,xz⟩
   unfold htV at hval
   have hown3:=HG3.out.1
   have hjm:j < maxLen:=by unfold maxLen;omega
   go_wp2_with (first
    | (at_mapUpdate;refine wpList_mapUpdate_in _ rfl _ _ _ 238 rfl 9 _ (string_keyed Tryz.underlying9) Tryz.underlying238 _ w.heap.size j _ rfl hown3 hjm _ _ _ rfl rfl hkey _ _ hval ?_;intro w4 hown4 hturn4)
    | fail)
   have hpu:OwnsH w4 w.heap.size (j+1) (hput ⟨xk,xs,xa,xz⟩ (hofP (l.take j))):=by
    have he:=Zs5 (H:=Unit) ⟨xk,xs,xa,xz⟩ (hofP (l.take j))
    unfold OwnsH
    rw [←he]
    exact hown4
   have HF:=hid (And.intro hpu (Below.grown HG3.out.2 hturn4.grown HG3.out.2.size (fun k hk=>by cases hk;exact Nat.le_refl _)))
   clear hpu hown4 hturn4 hown3
   go_roundw
   case rel=>exact ⟨j+1,by omega,by go_num,hid (by rw [HOF.out,HTF.out];exact HF.out.1),hid HF.out.2⟩
   case measure=>simp [intOf];omega
  ·obtain rfl:j=n:=by omega
   have hall:l.take j=l:=List.take_of_length_le (by omega)
   rw [hall] at HO
   have hl:=Zg8 l
   have hg4:=Zb wr (.cells #[.map (some w.heap.size)] 238)
   have hb4:=Boxed.new wr 238 (.map (some w.heap.size))
   obtain ⟨W4,hW4⟩:∃ z,wr.alloc (.cells #[.map (some w.heap.size)] 238)=z:=⟨_,rfl⟩
   rw [hW4] at hg4 hb4
   have HS:=hid (Zgb w.heap.size j (hofP l) W4 wr.heap.size hb4 (Zb2 HO.out (hg4.block _ (World.ownsMap.lt HO.out))) (Zs4 l) (by omega))
   have HG4:=hid (Below.trans HG.out (hg4.mono HG.out.size))
   have HVA:=hid (Zn3 w.heap.size wr)
   rw [hW4] at HVA
   clear hall hl hg4 hb4 hW4
   go_wp2_with (fail)
   refine HVA.out.mono ?_
   rintro e w5 ⟨rfl,rfl⟩
   go_wp2_with (fail)
   refine HS.out.mono ?_
   rintro e w6 ⟨A6,c6,rfl,ho6,hg6⟩
   have H6:=hid (And.intro ho6 hg6)
   clear ho6 hg6
   go_wp2_with (fail)
   go_ret
   exact ⟨A6,c6,rfl,Zh H6.out.1 HG4.out.size,Below.trans HG4.out (H6.out.2.mono HG4.out.size)⟩
end Go.Proofs.YtkelafkbmnjpeaaGreat
