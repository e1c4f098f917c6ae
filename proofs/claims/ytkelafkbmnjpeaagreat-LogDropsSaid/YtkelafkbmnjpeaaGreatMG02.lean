/-
  Texts that the statements lean on, one behind the other.
-/
import Derived.Test.YtkelafkbmnjpeaaGreatMG01
import Derived.KernelRfl
set_option maxHeartbeats 1000000
set_option maxRecDepth 100000
namespace Go.Proofs.YtkelafkbmnjpeaaGreat
open Go.RowKit Go.Maps Go.WideMaps
theorem lawStr:Keyed Tryz.prog 9:=string_keyed Tryz.underlying9
theorem Znf (w:World):(zeroValue 105).run Tryz.prog w=.ok (.pointer none) w:=by kernel_rfl
theorem Zh4 {n:Nm} (hn:n.length≤maxLen):keyOf Tryz.prog 9 (strB n)=some (.string n):=by
 have:=keyOf_string_mk (P:=Tryz.prog) (k:=9) Tryz.underlying9 (s:=⟨n.toArray⟩) (by simpa [ByteArray.size] using hn)
 unfold strB
 simpa using this
def fileV (loc:Nat→Nat) (l:Dir) (n:Nm):Value:=match Dir.find n l with
 | some f=>ptrV (loc f)
 | none=>.pointer none
section
variable {w:World} {made:Nat} {loc:Nat→Nat} {b:Nat} {l:Dir} {n:Nm}
theorem Zja (h:Zdf w made loc b l) (hn:n.length≤maxLen) (ok:Bool) :
 (Instr.lookup 85 (.map (some b)) (strB n) ok).run Tryz.prog w=.ok (if ok then .tuple #[fileV loc l n,.bool (Dir.find n l).isSome] else fileV loc l n) w∧∀ f,Dir.find n l=some f→f < made:=by
 have key:∀ v ps,ptrR made loc v=some ((encD l).atKey (.string n) (.lit (.int .i64 (-1))),ps)→v=fileV loc l n∧∀ f,Dir.find n l=some f→f < made:=fun v ps h2=>by
  rw [Zqm] at h2
  unfold fileV
  cases hf:Dir.find n l with
  | none =>
    rw [hf] at h2
    dsimp only at h2 ⊢
    rcases Zfl h2 with ⟨rfl,_⟩ | ⟨i,_,_,e⟩
    ·exact ⟨rfl,fun f e=>by cases e⟩
    ·simp only [Prod.mk.injEq,DataW.lit.injEq,Lit.int.injEq] at e
     omega
  | some f =>
    rw [hf] at h2
    dsimp only at h2 ⊢
    rcases Zfl h2 with ⟨rfl,e⟩ | ⟨i,hi,rfl,e⟩
    ·simp only [Prod.mk.injEq,DataW.lit.injEq,Lit.int.injEq] at e
     omega
    ·simp only [Prod.mk.injEq,DataW.lit.injEq,Lit.int.injEq] at e
     obtain rfl:f=i:=by omega
     exact ⟨rfl,fun f' e=>by cases e;exact hi⟩
 cases ok with
 | true =>
   obtain ⟨v,ps,h1,h2⟩:=World.ownsMap.look_ok h lawStr Tryz.underlying85 (Znf w) (Znh made loc) (Zh4 hn)
   obtain ⟨rfl,h3⟩:=key v ps h2
   rw [Zqn] at h1
   exact ⟨h1,h3⟩
 | false =>
   obtain ⟨v,ps,h1,h2⟩:=World.ownsMap.lookup h lawStr Tryz.underlying85 (Znf w) (Znh made loc) (Zh4 hn)
   obtain ⟨rfl,h3⟩:=key v ps h2
   exact ⟨h1,h3⟩
end
section
variable {w:World} {d:Nat} {own:Nat→Prop} {G:Geo} {m:Dk} {n:Nm}
theorem DkAt.find_lt (h:DkAt w d own G m) (hn:n.length≤maxLen) {f:Nat} (hf:Dir.find n m.names=some f):f < m.made:=(Zja h.rest.names hn true).2 f hf
theorem DkAt.look (h:DkAt w d own G m) (hn:n.length≤maxLen):(Instr.lookup 85 (.map (some G.nb)) (strB n) true).run Tryz.prog w=.ok (.tuple #[fileV G.loc m.names n,.bool (Dir.find n m.names).isSome]) w:=(Zja h.rest.names hn true).1
theorem DkAt.look1 (h:DkAt w d own G m) (hn:n.length≤maxLen):(Instr.lookup 85 (.map (some G.nb)) (strB n) false).run Tryz.prog w=.ok (fileV G.loc m.names n) w:=(Zja h.rest.names hn false).1
theorem DkAt.cell (h:DkAt w d own G m) (i:Nat):w.cell? ⟨d,i,none⟩=(Jm m G.nb G.kb G.pv)[i]?:=h.top.cell i
theorem Zct {loc:Nat→Nat} {l:Dir} {f:Nat} (h:Dir.find n l=some f):fileV loc l n=ptrV (loc f):=by unfold fileV;rw [h]
theorem Za7 {loc:Nat→Nat} {l:Dir} (h:Dir.find n l=none):fileV loc l n=.pointer none:=by unfold fileV;rw [h]
theorem Zjb (w:World) (h:DkAt w d own G m) (hn:n.length≤maxLen):Calls Tryz.prog 124 #[.pointer (some ⟨d,0,none⟩),.string ⟨n.toArray⟩] w fun e w' =>
 e=.returned (.tuple #[if m.down then .pointer none else fileV G.loc m.names n,.int .i64 (if m.down then 82 else if (Dir.find n m.names).isSome then 0 else 3)])∧w=w':=by
 have c3:w.cell? ⟨d,3,none⟩=some (.map (some G.nb)):=h.cell 3
 have c9:w.cell? ⟨d,9,none⟩=some (.bool m.down):=h.cell 9
 have hl:=h.look hn
 unfold strB at hl
 have hv0:Dir.find n m.names=none→fileV G.loc m.names n=.pointer none:=Za7
 clear h hn
 generalize fileV G.loc m.names n=fv at *
 cases hd:m.down with
 | true =>
   rw [hd] at c9
   clear hl hv0
   go_enter Tryz.func124,Tryz.ntmps124
   go_wp2
   go_ret2
   exact ⟨rfl,rfl⟩
 | false =>
   rw [hd] at c9
   cases hf:(Dir.find n m.names).isSome with
   | true =>
     rw [hf] at hl
     clear hf hd hv0
     go_enter Tryz.func124,Tryz.ntmps124
     go_wp2
     go_ret2
     exact ⟨rfl,rfl⟩
   | false =>
     have hv:fv=.pointer none:=hv0 (by simpa using hf)
     rw [hf] at hl
     clear hf hd hv0
     subst hv
     go_enter Tryz.func124,Tryz.ntmps124
     go_wp2
     go_ret2
     exact ⟨rfl,rfl⟩
theorem Zng (w:World) (h:DkAt w d own G m) (hn:n.length≤maxLen):Calls Tryz.prog 48 #[.pointer (some ⟨d,0,none⟩),.string ⟨n.toArray⟩] w fun e w' =>
 e=.returned (.tuple #[.int .i64 (m.size n).1,.bool (m.size n).2])∧w=w':=by
 have c3:w.cell? ⟨d,3,none⟩=some (.map (some G.nb)):=h.cell 3
 have hl:=h.look hn
 cases hf:Dir.find n m.names with
 | none =>
   rw [hf,Za7 hf] at hl
   unfold strB at hl
   simp only [Option.isSome] at hl
   have hs:m.size n=(0,false):=by unfold Dk.size;rw [hf]
   rw [hs]
   clear h hn hf hs
   go_enter Tryz.func48,Tryz.ntmps48
   go_wp2
   go_ret2
   exact ⟨rfl,rfl⟩
 | some f =>
   rw [hf,Zct hf] at hl
   unfold strB ptrV at hl
   simp only [Option.isSome] at hl
   have hs:m.size n=(((m.files f).bytes.length:Int),true):=by unfold Dk.size;rw [hf]
   rw [hs]
   have hlt:=h.find_lt hn hf
   obtain ⟨A,c,hA,_⟩:=Zo (h.rest.rows f hlt)
   have c1:w.cell? ⟨G.loc f,1,none⟩=some (.slice A (m.files f).bytes.length c):=by rw [←hA];exact (h.rest.cells f hlt).cell 1
   clear h hn hf hs hA
   dsimp only
   generalize (m.files f).bytes.length=k at *
   generalize G.loc f=lf at *
   go_enter Tryz.func48,Tryz.ntmps48
   go_wp2
   go_ret2
   exact ⟨rfl,rfl⟩
theorem Ztx (w:World) (h:DkAt w d own G m):Calls Tryz.prog 30 #[.pointer (some ⟨d,0,none⟩)] w fun e w'=>e=.returned (.int .i64 m.done)∧w=w':=by
 have c3:w.cell? ⟨d,6,none⟩=some (.int .i64 m.done):=h.cell 6
 clear h
 go_enter Tryz.func30,Tryz.ntmps30
 go_wp2
 go_ret
 exact ⟨rfl,rfl⟩
theorem Zki (n:Nm) (w:World):Calls Tryz.prog 186 #[.string ⟨n.toArray⟩] w fun e w'=>e=.returned (.bool (right n))∧w=w':=by
 unfold right
 generalize hk:n.length=k
 have hs:(⟨n.toArray⟩:ByteArray).size=k:=by simpa [ByteArray.size] using hk
 clear hk
 generalize (⟨n.toArray⟩:ByteArray)=s at *
 by_cases h1:1≤k
 ·have d1:decide ((k:Int)≥1)=true:=by simp;omega
  by_cases h2:k≤16
  ·have d2:decide ((k:Int)≤16)=true:=by simp;omega
   rw [decide_eq_true h1,decide_eq_true h2]
   clear h1 h2
   go_enter Tryz.func186,Tryz.ntmps186
   go_wp2
   go_ret
   exact ⟨rfl,rfl⟩
  ·have d2:decide ((k:Int)≤16)=false:=by simp;omega
   rw [decide_eq_true h1,decide_eq_false h2]
   clear h1 h2
   go_enter Tryz.func186,Tryz.ntmps186
   go_wp2
   go_ret
   exact ⟨rfl,rfl⟩
 ·have d1:decide ((k:Int)≥1)=false:=by simp;omega
  rw [decide_eq_false h1]
  clear h1
  go_enter Tryz.func186,Tryz.ntmps186
  go_wp2
  go_ret
  exact ⟨rfl,rfl⟩
theorem Zh5 (w:World) {o:Nat} {x:Int} (hc:w.cell? ⟨d,o,none⟩=some (.int .i64 x)) (hf:w.frozen? ⟨d,o,none⟩=false) (hx:-9223372036854775807≤x∧x≤9223372036854775807):Calls Tryz.prog 182 #[.pointer (some ⟨d,o,none⟩)] w fun e w' =>
 e=.returned (.tuple #[])∧w'=if 0 < x then w.setCell ⟨d,o,none⟩ (.int .i64 (x - 1)) else w:=by
 by_cases h1:0 < x
 ·have e:wrap64 (x - 1)=x - 1:=IntWalk.wrap64_in _ (by omega)
  rw [if_pos h1]
  clear hx
  go_enter Tryz.func182,Tryz.ntmps182
  go_wp2
  go_end0
  exact ⟨rfl,rfl⟩
 ·rw [if_neg h1]
  clear hx
  go_enter Tryz.func182,Tryz.ntmps182
  go_wp2
  go_end0
  exact ⟨rfl,rfl⟩
theorem Zwf (w:World) {o:Nat} {x:Int} (y:Int) (hc:w.cell? ⟨d,o,none⟩=some (.int .i64 x)) (hf:w.frozen? ⟨d,o,none⟩=false):Calls Tryz.prog 53 #[.pointer (some ⟨d,o,none⟩),.int .i64 y] w fun e w' =>
 e=.returned (.tuple #[])∧w'=if 0≤y then w.setCell ⟨d,o,none⟩ (.int .i64 y) else w:=by
 by_cases h1:0≤y
 ·rw [if_pos h1]
  go_enter Tryz.func53,Tryz.ntmps53
  go_wp2
  go_end0
  exact ⟨rfl,rfl⟩
 ·rw [if_neg h1]
  go_enter Tryz.func53,Tryz.ntmps53
  go_wp2
  go_end0
  exact ⟨rfl,rfl⟩
theorem DkAt.set (h:DkAt w d own G m) {m':Dk} (i:Nat) (v:Value) (hd:(Jm m G.nb G.kb G.pv).setIfInBounds i v=Jm m' G.nb G.kb G.pv)
 (h1:m'.made=m.made) (h2:m'.names=m.names) (h3:m'.kept=m.kept) (h4:m'.pend=m.pend) (h5:m'.files=m.files):DkAt (w.setCell ⟨d,i,none⟩ v) d own G m' :=
 h.retop (hd ▸ h.top.put i v) ((Zc.refl (fun k=>k=d) w).setCell (p:=⟨d,i,none⟩) rfl v) h1 h2 h3 h4 h5
theorem Zty (w:World) (y:Int) (h:DkAt w d own G m):Calls Tryz.prog 15 #[.pointer (some ⟨d,0,none⟩),.int .i64 y] w fun e w' =>
 e=.returned (.tuple #[])∧DkAt w' d own G (m.setFail y)∧Zc (fun k=>k=d) w w':=by
 have c7:w.cell? ⟨d,7,none⟩=some (.int .i64 m.fail):=h.cell 7
 have HC:=Lib.hid (Zwf w y c7 (h.top.free 7))
 have H:=Lib.hid h
 clear h
 go_enter Tryz.func15,Tryz.ntmps15
 go_wp2_with (fail)
 refine HC.out.mono ?_
 rintro e w' ⟨rfl,hw⟩
 have HW:=Lib.hid hw
 clear hw
 go_wp2_with (fail)
 go_end0
 have hw:=HW.out
 by_cases hy:0≤y
 ·rw [if_pos hy] at hw
  subst hw
  exact ⟨rfl,H.out.set 7 _ (by simp [Jm,Dk.setFail,hy]) rfl rfl rfl rfl rfl,(Zc.refl (fun k=>k=d) w).setCell (p:=⟨d,7,none⟩) rfl _⟩
 ·rw [if_neg hy] at hw
  subst hw
  refine ⟨rfl,?_,Zc.refl _ _⟩
  have:m.setFail y=m:=by simp [Dk.setFail,hy]
  rw [this]
  exact H.out
end
end Go.Proofs.YtkelafkbmnjpeaaGreat
set_option maxHeartbeats 1000000
set_option maxRecDepth 100000
namespace Go.Proofs.YtkelafkbmnjpeaaGreat
open Go.RowKit Go.Maps Go.WideMaps
section
variable {w:World} {own:Nat→Prop} {made:Nat} {loc:Nat→Nat} {b n:Nat} {l:Dir}
abbrev OwnsN (w:World) (made:Nat) (loc:Nat→Nat) (b n:Nat) (l:Dir):Prop:=w.ownsMap Tryz.prog 9 (ptrR made loc) b n (encD l)
theorem Zkf {H:Type} {P:Program} {k:TypeId} {R:Value→Option (DataW H×List MemPlace)} {w w':World} {b n c t:Nat} {D:DataW H} {cs:Array Value} (hc:Whole w c t cs) (h:w.ownsMap P k R b n D) (ht:w.mapTurned w' b):Whole w' c t cs :=
 hc.same (ht.grown.block c hc.lt fun e=>by
  injection e with e
  subst e
  obtain ⟨es,cl,h2⟩:=Z4 h
  unfold Whole at hc
  rw [h2] at hc;cases hc)
theorem Zkg (w:World) {x:Nm} {a:Nat} (h:OwnsN w made loc b n l) (hx:x.length≤maxLen) (ha:Whole w a 9 #[strB x]) :
 Calls Tryz.prog 261 #[.map (some b),ptrV a] w fun e w'=>e=.returned (.tuple #[])∧OwnsN w' made loc b (n+1) (Dir.del x l)∧w.mapTurned w' b:=by
 have c0:w.cell? ⟨a,0,none⟩=some (.string ⟨x.toArray⟩):=ha.cell 0
 have hk:=Zh4 hx
 unfold ptrV
 unfold strB at hk
 clear ha hx
 go_enter Tryz.func261,Tryz.ntmps261
 go_wp2_with (first
  | (at_delete;refine wpList_delete_own _ rfl _ _ 85 9 rfl _ lawStr Tryz.underlying85 _ b n _ rfl h _ _ rfl hk ?_;intro w1 hown1 hturn1))
 go_end0
 rw [Zqk] at hown1
 exact ⟨rfl,hown1.mono (Nat.le_succ _),hturn1⟩
theorem Zne (w:World) {x:Nm} {f a c:Nat} (hinj:∀ i j,i < made→j < made→loc i=loc j→i=j) (h:OwnsN w made loc b n l) (hn:n < maxLen) (hx:x.length≤maxLen) (hf:f < made) (ha:Whole w a 9 #[strB x]) (hc:Whole w c 105 #[ptrV (loc f)]) :
 Calls Tryz.prog 260 #[.map (some b),ptrV c,ptrV a] w fun e w'=>e=.returned (.tuple #[])∧OwnsN w' made loc b (n+1) (Dir.put x f l)∧w.mapTurned w' b:=by
 have c0:w.cell? ⟨a,0,none⟩=some (.string ⟨x.toArray⟩):=ha.cell 0
 have c1:w.cell? ⟨c,0,none⟩=some (.pointer (some ⟨loc f,0,none⟩)):=hc.cell 0
 have hk:=Zh4 hx
 have hv:=Zl0 hinj hf
 unfold ptrV
 unfold strB at hk
 clear ha hx hc hinj hf
 generalize loc f=lf at *
 go_enter Tryz.func260,Tryz.ntmps260
 go_wp2_with (first
  | (at_mapUpdate;refine wpList_mapUpdate_in _ rfl _ _ _ 85 rfl 9 _ lawStr Tryz.underlying85 _ b n _ rfl h hn _ _ _ rfl rfl hk _ _ hv ?_;intro w1 hown1 hturn1))
 go_end0
 rw [Zql] at hown1
 exact ⟨rfl,hown1,hturn1⟩
theorem Zkh (w:World) {x y:Nm} {a c:Nat} (hinj:∀ i j,i < made→j < made→loc i=loc j→i=j) (h:OwnsN w made loc b n l) (hn:n < maxLen) (hx:x.length≤maxLen) (hy:y.length≤maxLen) (ha:Whole w a 9 #[strB x]) (hc:Whole w c 9 #[strB y]) :
 Calls Tryz.prog 304 #[.map (some b),ptrV a,ptrV c] w fun e w'=>e=.returned (.tuple #[])∧OwnsN w' made loc b (n+1) ((Ch.moved x y).on l)∧w.mapTurned w' b:=by
 have c0:w.cell? ⟨a,0,none⟩=some (.string ⟨x.toArray⟩):=ha.cell 0
 have hk:=Zh4 hx
 have hky:=Zh4 hy
 have hl:=Zja (Zgb h |> fun h=>by rw [Zcu] at h;exact h) hx true
 have hlk:=hl.1
 have hlt:=hl.2
 have HA:=Lib.hid ha
 have HCc:=Lib.hid hc
 unfold ptrV
 unfold strB at hk hky hlk
 clear hl ha hc hx hy
 cases hf:Dir.find x l with
 | none =>
   have e:(Ch.moved x y).on l=l:=by simp only [Ch.on,hf]
   rw [hf,Za7 hf] at hlk
   simp only [Option.isSome,if_true] at hlk
   rw [e]
   have H:=Lib.hid h
   clear h hf hlt hinj hk hky e
   go_enter Tryz.func304,Tryz.ntmps304
   go_wp2
   go_end0
   exact ⟨rfl,H.out.mono (Nat.le_succ _),H.out.turned_refl⟩
 | some f =>
   have e:(Ch.moved x y).on l=Dir.put y f (Dir.del x l):=by simp only [Ch.on,hf]
   rw [hf,Zct hf] at hlk
   unfold ptrV at hlk
   simp only [Option.isSome,if_true] at hlk
   have hv:=Zl0 hinj (hlt f hf)
   rw [e]
   clear hf hlt hinj e
   generalize loc f=lf at *
   go_enter Tryz.func304,Tryz.ntmps304
   go_wp2_with (first
    | (at_delete;refine wpList_delete_own _ rfl _ _ 85 9 rfl _ lawStr Tryz.underlying85 _ b n _ rfl h _ _ rfl hk ?_;intro w1 hown1 hturn1;have c1:w1.cell? ⟨c,0,none⟩=some (.string ⟨y.toArray⟩):=(Zkf HCc.out h hturn1).cell 0;have HT:=Lib.hid hturn1;clear hturn1)
    | (at_mapUpdate;refine wpList_mapUpdate_in _ rfl _ _ _ 85 rfl 9 _ lawStr Tryz.underlying85 _ b n _ rfl hown1 hn _ _ _ rfl rfl hky _ _ hv ?_;intro w2 hown2 hturn2))
   go_end0
   rw [Zqk,Zql] at hown2
   exact ⟨rfl,hown2,HT.out.trans hturn2⟩
end
end Go.Proofs.YtkelafkbmnjpeaaGreat
set_option maxHeartbeats 2000000
set_option maxRecDepth 100000
namespace Go.Proofs.YtkelafkbmnjpeaaGreat
open Go.Lib (hid)
open Go.RowKit Go.Maps Go.WideMaps
theorem infoChange:(Tryz.prog.info? 154).map (fun i=>(i.zero,i.size,i.bytes))=some (some .nilFunc,1,8):=by kernel_rfl
theorem Zlz (w:World) (t:TypeId) (u:Value):Row (w.alloc (.cells #[u] t)) (w.alloc (.cells #[u] t)).heap.size (some ⟨w.heap.size,0,none⟩) 1 [u] :=
 ⟨rfl,fun k v hv=>⟨⟨w.heap.size,0,none⟩,rfl,(Whole.made w t #[u]).lt,by
  rw [show (⟨w.heap.size,0,none⟩:Addr).add k=⟨w.heap.size,k,none⟩ by unfold Addr.add;split <;> simp_all,(Whole.made w t #[u]).cell k]
  simpa using hv⟩⟩
structure Zqj (w:World) (d:Nat) (own:Nat→Prop) (w':World) (m0 m':Dk):Prop where
 ends:∃ own' G',Z6 w' own' G' m'∧Whole w' d 89 (Jm m0 G'.nb G'.kb G'.pv)∧¬ own' d∧∀ k,own' k→own k∨w.heap.size≤k
 low:Zc (fun k=>k=d∨own k) w w'
section
variable {w:World} {d:Nat} {own:Nat→Prop} {G:Geo} {m m0:Dk} {v:Value} {c:Ch}
theorem Zoq {w1 w2 w3:World} {n:Nat} {A:Option Addr} {cc:Nat} (h:Z6 w own G m) (ht:Whole w d 89 (Jm m0 G.nb G.kb G.pv)) (hd:¬ own d) (hc:ChAt w own m.made G.loc v c)
 (hn:OwnsN w1 m.made G.loc G.nb n (c.on m.names)) (ht1:w.mapTurned w1 G.nb)
 (hr:w2.ownsRow 0 154 1 (.slice A (m.pend.length+1) cc) (m.pend.length+1) (G.pvs++[v])) (hg:(w1.alloc (.cells #[v] 154)).grownBy w2 G.pv.ownBlock)
 (hat:(Value.slice A (m.pend.length+1) cc).ownBlock=G.pv.ownBlock∨(Value.slice A (m.pend.length+1) cc).ownBlock=some (w1.alloc (.cells #[v] 154)).heap.size)
 (hw3:w3=w2.setCell ⟨d,5,none⟩ (.slice A (m.pend.length+1) cc)):Zqj w d own w3 m0 (m.change c):=by
 have hsz1:w.heap.size≤w1.heap.size:=ht1.grown.size
 have hsz2:w.heap.size+1≤w2.heap.size:=by have:=hg.size;rw [World.size_alloc] at this;omega
 have a1:Z6 w1 own G { m with names:=c.on m.names }:=h.named hn (fun k hk hne=>ht1.grown.block k hk (fun e=>hne (by injection e))) (by omega)
 have b2:∀ k,k < w.heap.size→G.pv.ownBlock≠some k→w2.heap[k]?=w1.heap[k]?:=fun k hk hne=>by
  rw [hg.block k (by rw [World.size_alloc];omega) (fun e=>hne e.symm)]
  exact Below.heap_alloc _ _ _ (by omega)
 have dT:∀ {k:Nat} {cs:Array Value} {t:TypeId},w.heap[k]?=some (.cells cs t (0,0))→t≠154→G.pv.ownBlock≠some k:=fun hk hne e=>by
  obtain ⟨cur,h1⟩:=Z3 h.pend e
  rw [hk] at h1
  injection h1 with h1
  injection h1 with _ h1 _
  exact hne h1
 have ht':Whole w2 d 89 (Jm m0 G.nb G.kb G.pv):=(ht.same (ht1.grown.block d ht.lt fun e=>by
  injection e with e
  exact hd (e ▸ h.on))).same (b2 d ht.lt (dT ht (by decide)))
 have a2:Z6 w2 (fun k=>own k∨(Value.slice A (m.pend.length+1) cc).ownBlock=some k) { G with pv:=.slice A (m.pend.length+1) cc,pvs:=G.pvs++[v] } (m.change c):=by
  have a1':Z6 w1 own G (m.change c |> fun x=>{ x with pend:=m.pend }):=a1
  have wide:∀ {x:World},Z6 x own G { m with names:=c.on m.names }→w.heap.size≤x.heap.size→True:=fun _ _=>trivial
  have hlt2:∀ k,(own k∨(Value.slice A (m.pend.length+1) cc).ownBlock=some k)→k < w2.heap.size:=by
   rintro k (hk | hk)
   ·have:=h.lt k hk;omega
   ·exact (hr.lt k hk).2
  constructor
  ·exact hlt2
  ·exact Ys a1.names (b2 _ (h.lt _ h.on) fun e=>by
    obtain ⟨cur,h1⟩:=Z3 h.pend e
    obtain ⟨es,cl,h2⟩:=Z4 h.names
    rw [h1] at h2;cases h2)
  ·exact .inl h.on
  ·exact Ys a1.kept (b2 _ (h.lt _ h.ok) fun e=>by
    obtain ⟨cur,h1⟩:=Z3 h.pend e
    obtain ⟨es,cl,h2⟩:=Z4 h.kept
    rw [h1] at h2;cases h2)
  ·exact .inl h.ok
  ·exact h.nk
  ·show w2.ownsRow 0 154 1 _ (m.pend++[c]).length _
   rw [List.length_append]
   exact hr
  ·exact fun k hk=>.inr hk
  ·intro i u x h1 h2
   have h1:(G.pvs++[v])[i]?=some u:=h1
   have h2:(m.pend++[c])[i]?=some x:=h2
   have stay:∀ {u:Value} {x:Ch},ChAt w1 own m.made G.loc u x→ChAt w2 (fun k=>own k∨(Value.slice A (m.pend.length+1) cc).ownBlock=some k) m.made G.loc u x:=fun hu=>hu.stay (fun _ h=>.inl h) (Nat.le_refl _) (fun _ _=>rfl) fun k hk cs t e et =>
    b2 k (h.lt k hk) fun e2=>by
     obtain ⟨cur,h1⟩:=Z3 a1.pend e2
     rw [e] at h1
     injection h1 with h1
     injection h1 with _ h1 _
     subst h1
     rcases et with et | et <;> cases et
   rcases Nat.lt_or_ge i m.pend.length with hi | hi
   ·rw [List.getElem?_append_left (by have:=h.nlen;omega)] at h1
    rw [List.getElem?_append_left hi] at h2
    exact stay (a1.chs i u x h1 h2)
   ·rw [List.getElem?_append_right (by have:=h.nlen;omega)] at h1
    rw [List.getElem?_append_right hi] at h2
    have e0:i - m.pend.length=0:=by
     rcases Nat.eq_zero_or_pos (i - m.pend.length) with e | e
     ·exact e
     ·rw [List.getElem?_eq_none (by simp only [List.length_cons,List.length_nil];omega)] at h2;cases h2
    rw [h.nlen,e0] at h1
    rw [e0] at h2
    cases h1;cases h2
    exact stay (hc.stay (fun _ h=>h) (Nat.le_refl _) (fun _ _=>rfl) fun k hk cs t e et=>ht1.grown.block k (h.lt k hk) fun e2=>by
     injection e2 with e2
     subst e2
     obtain ⟨es,cl,h2⟩:=Z4 h.names
     rw [e] at h2;cases h2)
  ·exact h.inj
  ·exact fun i hi=>(a1.cells i hi).same (b2 _ (h.lt _ (h.ol i hi)) (dT (h.cells i hi) (by decide)))
  ·exact fun i hi=>.inl (h.ol i hi)
  ·exact fun i hi=>Ym (a1.rows i hi) fun k hk=>b2 k (h.lt _ (h.or i k hi hk)) (by
    obtain ⟨cur,h1⟩:=Z3 (h.rows i hi) hk
    exact dT h1 (by decide))
  ·exact fun i k hi hk=>.inl (h.or i k hi hk)
  ·exact h.apart
 have hnd:¬ (own d∨(Value.slice A (m.pend.length+1) cc).ownBlock=some d):=by
  rintro (e | e)
  ·exact hd e
  ·obtain ⟨cur,h1⟩:=Z3 hr e
   unfold Whole at ht'
   rw [ht'] at h1
   injection h1 with h1
   injection h1 with _ h1 _
   cases h1
 subst hw3
 refine ⟨⟨_,_,a2.stay (fun k hk=>Below.heap_setCell _ _ _ _ fun e=>hnd (by have e:k=d:=e;exact e ▸ hk)) (by simp [World.setCell]),?_,hnd,?_⟩,?_⟩
 ·exact ht'.put 5 _
 ·rintro k (hk | hk)
  ·exact .inl hk
  ·rcases hat with e | e
   ·exact .inl (h.op k (e ▸ hk))
   ·rw [e] at hk
    injection hk with hk
    rw [World.size_alloc] at hk
    exact .inr (by omega)
 ·have s1:Zc (fun k=>k=d∨own k) w w1:=(Zc.refl _ w).grown ht1.grown fun g e=>by
   injection e with e
   exact .inr (e ▸ h.on)
  exact ((s1.alloc _).grown hg fun g e=>.inr (h.op g e)).setCell (p:=⟨d,5,none⟩) (.inl rfl) _
theorem Zh3 (w:World) (h:Z6 w own G m) (ht:Whole w d 89 (Jm m0 G.nb G.kb G.pv)) (hd:¬ own d) (hc:ChAt w own m.made G.loc v c) (hp:m.pend.length≤1000000000) (hq:m.names.length≤1000000000) :
 Calls Tryz.prog 188 #[.pointer (some ⟨d,0,none⟩),v] w fun e w'=>e=.returned (.tuple #[])∧Zqj w d own w' m0 (m.change c):=by
 have c3:w.cell? ⟨d,3,none⟩=some (.map (some G.nb)):=ht.cell 3
 obtain ⟨i0,hi0,hz0,hz1,hz2⟩:=info_parts infoChange
 have HI:=hid (And.intro hi0 (And.intro hz0 (And.intro hz1 hz2)))
 clear hi0 hz0 hz1 hz2
 obtain ⟨A0,cc0,hA0,_⟩:=Zo h.pend
 have HA0:=hid hA0
 -- what is known behind the change
 have next:∀ w1,OwnsN w1 m.made G.loc G.nb (m.names.length+1) (c.on m.names)→w.mapTurned w1 G.nb →
  w1.cell? ⟨d,5,none⟩=some (.slice A0 m.pend.length cc0)∧w1.frozen? ⟨d,5,none⟩=false∧d < w1.heap.size∧(w1.alloc (.cells #[v] 154)).ownsRow 0 154 1 (.slice A0 m.pend.length cc0) m.pend.length G.pvs∧∀ w2,(w1.alloc (.cells #[v] 154)).grownBy w2 G.pv.ownBlock→w2.cell? ⟨d,5,none⟩=some (.slice A0 m.pend.length cc0)∧w2.frozen? ⟨d,5,none⟩=false:=fun w1 hn ht1=>by
  have t1:Whole w1 d 89 (Jm m0 G.nb G.kb G.pv):=ht.same (ht1.grown.block d ht.lt fun e=>by
   injection e with e
   exact hd (e ▸ h.on))
  have e5:w1.cell? ⟨d,5,none⟩=some G.pv:=t1.cell 5
  rw [hA0] at e5
  refine ⟨e5,t1.free 5,t1.lt,?_,fun w2 hg=>?_⟩
  rotate_left
  ·have t2:Whole w2 d 89 (Jm m0 G.nb G.kb G.pv):=(t1.alloc _).same (hg.block d (by rw [World.size_alloc];have:=t1.lt;omega) fun e=>by
    obtain ⟨cur,h1⟩:=Z3 h.pend e.symm
    unfold Whole at ht
    rw [ht] at h1
    injection h1 with h1
    injection h1 with _ h1 _
    cases h1)
   refine ⟨?_,t2.free 5⟩
   rw [←hA0]
   exact t2.cell 5
  rw [←hA0]
  have r1:w1.ownsRow 0 154 1 G.pv m.pend.length G.pvs:=Ym h.pend fun k hk=>ht1.grown.block k (h.lt k (h.op k hk)) fun e=>by
   injection e with e
   subst e
   obtain ⟨cur,h1⟩:=Z3 h.pend hk
   obtain ⟨es,cl,h2⟩:=Z4 h.names
   rw [h1] at h2;cases h2
  exact Ym r1 fun k hk=>Below.heap_alloc _ _ _ (r1.lt k hk).2
 have fin:=fun w1 w2 w3 n A cc hn ht1 hr hg hat hw3=>Zoq (w1:=w1) (w2:=w2) (w3:=w3) (n:=n) (A:=A) (cc:=cc) h ht hd hc hn ht1 hr hg hat hw3
 have HF:=hid fin
 have HN:=hid next
 clear next fin hA0
 cases c with
 | taken n =>
   obtain ⟨q1,a,rfl,_,hwa⟩:=hc
   have HM:=hid (Zkg w h.names q1 hwa)
   clear h ht hd
   unfold ptrV at *
   go_enter Tryz.func188,Tryz.ntmps188
   go_wp2_with (first
    | (go_at_call 261;refine (HM.out).mono ?_;rintro e w1 ⟨rfl,hn1,ht1⟩;have hx:=HN.out w1 hn1 ht1;have c5:=hx.1;have f5:=hx.2.1;have HX:=hid hx.2.2.2;have HN1:=hid hn1;have HT1:=hid ht1;clear hx hn1 ht1)
    | (at_builtin;refine Yj rfl _ _ 87 rfl Tryz.underlying87 HI.out.1 HI.out.2.1 HI.out.2.2.1 HI.out.2.2.2 rfl rfl HX.out.1 (news:=_) rfl (Zlz _ _ _) (fun h=>by cases h) (by simp [Value.oneCell']) (m.pend.length+1) rfl _ rfl (by unfold maxLen;omega) (by omega) (Nat.zero_le _) ?_;intro A2 cc2 w2 hr2 _ hg2 hat2;have hx2:=HX.out.2 w2 (HA0.out ▸ hg2);have c52:=hx2.1;have f52:=hx2.2;have HR2:=hid hr2;have HG2:=hid hg2;have HAT:=hid hat2;clear hr2 hg2 hat2 hx2))
   go_end0
   exact ⟨rfl,HF.out _ _ _ _ _ _ HN1.out HT1.out HR2.out (HA0.out ▸ HG2.out) (HA0.out ▸ HAT.out) rfl⟩
 | made n f =>
   obtain ⟨q1,q2,a,b,rfl,_,_,hwb,hwa⟩:=hc
   have HM:=hid (Zne w h.inj h.names (by unfold maxLen;omega) q1 q2 hwa hwb)
   clear h ht hd
   unfold ptrV at *
   go_enter Tryz.func188,Tryz.ntmps188
   go_wp2_with (first
    | (go_at_call 260;refine (HM.out).mono ?_;rintro e w1 ⟨rfl,hn1,ht1⟩;have hx:=HN.out w1 hn1 ht1;have c5:=hx.1;have f5:=hx.2.1;have HX:=hid hx.2.2.2;have HN1:=hid hn1;have HT1:=hid ht1;clear hx hn1 ht1)
    | (at_builtin;refine Yj rfl _ _ 87 rfl Tryz.underlying87 HI.out.1 HI.out.2.1 HI.out.2.2.1 HI.out.2.2.2 rfl rfl HX.out.1 (news:=_) rfl (Zlz _ _ _) (fun h=>by cases h) (by simp [Value.oneCell']) (m.pend.length+1) rfl _ rfl (by unfold maxLen;omega) (by omega) (Nat.zero_le _) ?_;intro A2 cc2 w2 hr2 _ hg2 hat2;have hx2:=HX.out.2 w2 (HA0.out ▸ hg2);have c52:=hx2.1;have f52:=hx2.2;have HR2:=hid hr2;have HG2:=hid hg2;have HAT:=hid hat2;clear hr2 hg2 hat2 hx2))
   go_end0
   exact ⟨rfl,HF.out _ _ _ _ _ _ HN1.out HT1.out HR2.out (HA0.out ▸ HG2.out) (HA0.out ▸ HAT.out) rfl⟩
 | moved n to =>
   obtain ⟨q1,q2,a,b,rfl,_,_,hwa,hwb⟩:=hc
   have HM:=hid (Zkh w h.inj h.names (by unfold maxLen;omega) q1 q2 hwa hwb)
   clear h ht hd
   unfold ptrV at *
   go_enter Tryz.func188,Tryz.ntmps188
   go_wp2_with (first
    | (go_at_call 304;refine (HM.out).mono ?_;rintro e w1 ⟨rfl,hn1,ht1⟩;have hx:=HN.out w1 hn1 ht1;have c5:=hx.1;have f5:=hx.2.1;have HX:=hid hx.2.2.2;have HN1:=hid hn1;have HT1:=hid ht1;clear hx hn1 ht1)
    | (at_builtin;refine Yj rfl _ _ 87 rfl Tryz.underlying87 HI.out.1 HI.out.2.1 HI.out.2.2.1 HI.out.2.2.2 rfl rfl HX.out.1 (news:=_) rfl (Zlz _ _ _) (fun h=>by cases h) (by simp [Value.oneCell']) (m.pend.length+1) rfl _ rfl (by unfold maxLen;omega) (by omega) (Nat.zero_le _) ?_;intro A2 cc2 w2 hr2 _ hg2 hat2;have hx2:=HX.out.2 w2 (HA0.out ▸ hg2);have c52:=hx2.1;have f52:=hx2.2;have HR2:=hid hr2;have HG2:=hid hg2;have HAT:=hid hat2;clear hr2 hg2 hat2 hx2))
   go_end0
   exact ⟨rfl,HF.out _ _ _ _ _ _ HN1.out HT1.out HR2.out (HA0.out ▸ HG2.out) (HA0.out ▸ HAT.out) rfl⟩
end
end Go.Proofs.YtkelafkbmnjpeaaGreat
