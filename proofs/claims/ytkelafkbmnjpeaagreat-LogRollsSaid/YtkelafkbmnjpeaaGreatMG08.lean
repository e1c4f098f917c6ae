/-
  Texts that the statements lean on, one behind the other.
-/
import Derived.Test.YtkelafkbmnjpeaaGreatMG07
import Derived.Shelf.SlIter.Nil
import Derived.Shelf.SortM.Plain
import Derived.Shelf.SortM.SortNone
import Derived.Test.YtkelafkbmnjpeaaGreatMG00
import Derived.WalkKit
import Derived.ProofKit
import Derived.OpenShut
import Derived.ShutString
import Derived.ChangeOld
import Derived.SizedLaws
import Derived.Below
import Derived.Test.YtkelafkbmnjpeaaGreatMG01
import Derived.Lib.Hide
import Derived.LoopTactic
import Derived.IntWalk
import Derived.WalkLawsBesides
import Derived.Maps.RangeWalk
set_option maxHeartbeats 2000000
set_option maxRecDepth 100000
namespace Go.Proofs.YtkelafkbmnjpeaaGreat
open Go.RowKit Go.Maps Go.WideMaps Go.Sort Go.Shelf
theorem Ztq (m:Nat):AnyZ.SortsIn Tryz.prog sortedDk_ren Fence.wide m :=
 ⟨fun blk off cap ss W hH hblk hsz=>callsIn_wide.2 (AnyM.slices_Sort_string sortDk blk off cap ss W hH hblk hsz),fun p cap W=>callsIn_wide.2 (AnyM.slices_Sort_string_none sortDk p cap W)⟩
theorem Zwb (mb:Option Nat) (W:World):CallsIn Fence.wide 5 Tryz.prog 70 #[.map mb] W fun e w'=>e=.returned (.func (.func 123) #[] #[.pointer (some ⟨W.heap.size,0,none⟩)])∧w'=W.alloc (.cells #[.map mb] 85) :=
 AnyZ.keys_in keysDk Fence.wide 5 trivial rfl mb W
theorem Zp8 {made:Nat} {loc:Nat→Nat} {b:Nat} {l:Dir} (w:World) (hown:Zdf w made loc b l) (hmax:l.length≤1000000000) :
 CallsIn Fence.wide 5 Tryz.prog 69 #[.func (.func 123) #[] #[.pointer (some ⟨w.heap.size,0,none⟩)]] (w.alloc (.cells #[.map (some b)] 85)) fun e w' =>
  ∃ (v:Value) (ss:List (List UInt8)),e=.returned v∧ss.Perm (l.map (·.1))∧w'.ownsRow (w.alloc (.cells #[.map (some b)] 85)).heap.size 9 1 v ss.length ((ss.mergeSort (fun x y=>decide (x≤y))).map encStr)∧(v=.slice none 0 0↔ss=[])∧Below (w.alloc (.cells #[.map (some b)] 85)).heap.size (w.alloc (.cells #[.map (some b)] 85)) w':=by
 have hbl:=World.ownsMap.lt hown
 have hD:Maps.size (encD (H:=Unit) l)=l.length:=Zcu l
 have hseq:SeqGives Fence.wide 2 Tryz.prog 123 #[.pointer (some ⟨w.heap.size,0,none⟩)] encStr (fun ss=>ss.Perm (strKeys (encD (H:=Unit) l))) (Maps.size (encD (H:=Unit) l)) (w.alloc (.cells #[.map (some b)] 85)) :=
  AnyZ.keys_gives (ρ:=keysDk_ren) { keysDk with } Fence.wide _ trivial rfl (by omega) w.heap.size b l.length _ _ (by simp) (by simp) (Ys hown (Below.heap_alloc _ _ b hbl))
 rw [Ztz,hD] at hseq
 exact AnyZ.sorted_in sortedDk Fence.wide 5 trivial trivial trivial trivial rfl (by omega) (Ztq _) (enters_of Tryz.func122 (by kernel_rfl) rfl) 123 #[.pointer (some ⟨w.heap.size,0,none⟩)] trivial (enters_of Tryz.func123 (by kernel_rfl) rfl) _ l.length (by unfold maxLen;omega) (by omega) _ hseq
theorem before_lt:∀ {a b:List UInt8},bytesBefore a b=true→a < b
 | [],[],h=>by cases h
 | [],_ :: _,_=>List.Lex.nil
 | _ :: _,[],h=>by cases h
 | x :: r,y :: s,h=>by
   simp only [bytesBefore,Bool.or_eq_true,decide_eq_true_eq,Bool.and_eq_true,beq_iff_eq] at h
   rcases h with h | ⟨rfl,h⟩
   ·exact List.Lex.rel h
   ·exact List.Lex.cons (before_lt h)
theorem Ze9 {w:World} {made:Nat} {loc:Nat→Nat} {b n:Nat} {l:Dir} (h:OwnsN w made loc b n l):(l.map (·.1)).Pairwise (fun x y=>bytesBefore x y=true):=by
 obtain ⟨es,clock,hb,F,hs,hD⟩:=h
 have h1:=sorted_sorted lawStr.one _ (fit_keys F) (fit_apart lawStr F)
 unfold encD at hD
 injection hD with hD
 rw [←hD,List.pairwise_map] at h1
 rw [List.pairwise_map]
 exact h1
theorem Zwc {l:List (List UInt8)} (h:l.Pairwise (fun x y=>bytesBefore x y=true)):l.mergeSort (fun x y=>decide (x≤y))=l:=by
 refine List.mergeSort_of_pairwise (h.imp fun hxy=>?_)
 rw [decide_eq_true_eq]
 exact List.le_of_lt (before_lt hxy)
section
variable {d:Nat} {own:Nat→Prop} {G:Geo} {m:Dk}
theorem Ztr (w:World) (h:DkAt w d own G m) (hF:DkFit m):Calls Tryz.prog 26 #[.pointer (some ⟨d,0,none⟩)] w fun e w' =>
 ∃ v,e=.returned v∧w'.ownsRow w.heap.size 9 1 v m.names.length ((m.names.map (·.1)).map strB)∧Grows w w':=by
 have c3:w.cell? ⟨d,3,none⟩=some (.map (some G.nb)):=h.cell 3
 have HK:=Lib.hid (callsIn_wide.1 (Zwb (some G.nb) w))
 have HS:=Lib.hid (callsIn_wide.1 (Zp8 w h.rest.names hF.names))
 have HN:=Lib.hid (Ze9 h.rest.names)
 clear h hF
 go_enter Tryz.func26,Tryz.ntmps26
 go_wp2_with (fail)
 refine HK.out.mono ?_
 rintro e w1 ⟨rfl,rfl⟩
 clear HK
 go_wp2_with (fail)
 refine HS.out.mono ?_
 rintro e w2 ⟨v,ss,rfl,hp,hr,_,hb⟩
 have H2:=Lib.hid (And.intro hp (And.intro hr hb))
 clear hp hr hb HS
 go_wp2_with (fail)
 go_ret
 obtain ⟨hp,hr,hb⟩:=H2.out
 have hm:ss.mergeSort (fun x y=>decide (x≤y))=m.names.map (·.1):=by
  rw [←Zwc HN.out]
  exact mergeSort_of_perm hp
 have hl:ss.length=m.names.length:=by rw [hp.length_eq,List.length_map]
 rw [hm,hl,World.size_alloc] at hr
 refine ⟨v,rfl,Zg hr (Nat.le_succ _),?_⟩
 exact (Za w _).trans hb
end
end Go.Proofs.YtkelafkbmnjpeaaGreat
namespace Go.Proofs.YtkelafkbmnjpeaaGreat
open Go.ChangeShapes Go.WideShapes Go.ChangeAt Go.RowKit
section
variable {H:Type} {enc:TypeId×Value→H} {P:Program}
theorem Zou {t:TypeId} {v:Value} {d:DataW H} {p:List MemPlace} {W:World} (h:DataW.Trod enc P W 0 (fun _=>true) true t v d p):∀ x∈p,x.block < W.heap.size:=by
 obtain ⟨m,hm⟩:=h
 exact DataW.trod_lt m _ _ _ hm
theorem Zdv (hl:laidOutB P=true) {W W':World} (hb:Below W.heap.size W W') :
 ∀ {ts:List TypeId} {vs:List Value} {ds:List (DataW H)} {p:List MemPlace},(∀ t∈ts,P.readableRec t=true∧t < P.types.size) →
  DataW.TrodAll enc P W 0 (fun _=>true) true ts vs ds p→DataW.TrodAll enc P W' 0 (fun b=>decide (b < W.heap.size)) true ts vs ds p
 | [],[],[],_,_,h=>h
 | t :: ts,v :: vs,d :: ds,_,hr,h=>by
   obtain ⟨p,q,h1,h2,e⟩:=h
   have ht:=hr t (by simp)
   exact ⟨p,q,Below.trod hl ht.1 ht.2 h1 hb (Zou h1),Zdv hl hb (fun t' ht'=>hr t' (by simp [ht'])) h2,e⟩
 | [],_ :: _,_,_,_,h=>h.elim
 | [],[],_ :: _,_,_,h=>h.elim
 | _ :: _,[],_,_,_,h=>h.elim
 | _ :: _,_ :: _,[],_,_,h=>h.elim
end
theorem Zfn {C:Checked} {os:Os} {f:FuncId} {fn:Func} {s:ChangeSpec} (H:Type) (enc:TypeId×Value→H) (own:ownKnob C.prog.godebug=none) (started:os.Started) (noInit:C.prog.inits.idxOf? f=none) (hfn:C.prog.funcs[f]?=some fn)
 (witness:∃ (w:World) (tape:Tape) (i:Input),w.os=os∧(w.forCall tape i).Shaped C.prog∧i.vars=[]∧Input.okWide C.prog (w.forCall tape i) .any w.heap.size f i ∧
   s.pre6 enc C.prog fn [] false (w.forCall tape i).memory i.args∧Assume.holds {} C.prog (lone (Frame.enter C.prog f i.args .normal) [] (w.forCall tape i)))
 (hl:laidOutB C.prog=true) (hr:∀ t∈fn.params.toList,C.prog.readableRec t=true∧t < C.prog.types.size) {tb:TypeId} (hres:fn.resultTypes=#[tb]) (hb:C.prog.underlying tb=some .bool)
 (hvars:s.vars=[]) (hspec:∀ ds:List (DataW H),ds.length=fn.params.size→s.fn H ds={ results:=[.lit (.bool true)],args:=ds })
 (walk:∀ (W:World) (base:Nat) (args:Array Value) (ds:List (DataW H)) (p:List MemPlace),(∀ (j:Nat) t v,fn.params[j]?=some t→args[j]?=some v→Value.okWide C.prog W .any base t v) →
   DataW.TrodAll enc C.prog W 0 (fun _=>true) true fn.params.toList args.toList ds p→(DataW.weightsEach C.prog fn.params.toList ds).all (·≤reachBytes)=true →
   Calls C.prog f args W fun e W'=>e=.returned (.bool true)∧Below W.heap.size W W') :
 ReturnsInHanded {} C os f .any (s.pre6 enc C.prog fn [] false) (s.post enc C.prog fn false true false false):=by
 refine returnsInHanded_of_change_sized own started noInit hfn witness ?_
 intro W base args ds gs before hval hW _ hsz _
 have hW':=hW
 obtain ⟨p,q,hA,hV,rfl,hfz,hnd⟩:=hW
 rw [hvars] at hV
 obtain ⟨rfl,rfl⟩:=trodVars_none hV
 have hlen:ds.length=fn.params.size:=by
  have:∀ {ts:List TypeId} {vs:List Value} {ds:List (DataW H)} {p:List MemPlace},DataW.TrodAll enc C.prog W 0 (fun _=>true) true ts vs ds p→ds.length=ts.length:=by
   intro ts
   induction ts with
   | nil=>intro vs ds p h;cases vs <;> cases ds <;> first | rfl | exact h.elim
   | cons t ts ih =>
     intro vs ds p h
     cases vs <;> cases ds <;> first | exact h.elim | skip
     obtain ⟨_,_,_,h2,_⟩:=h
     simp [ih h2]
  rw [this hA]
  simp
 have hsz':(DataW.weightsEach C.prog fn.params.toList ds).all (·≤reachBytes)=true:=by
  have e:s.plain.varTypes C.prog=[]:=by
   show s.vars.filterMap _=[]
   rw [hvars];rfl
  rw [e,List.append_nil,List.append_nil] at hsz
  exact hsz
 refine (walk W base args ds p hval hA hsz').mono fun e W' ⟨he,bel⟩=>?_
 subst he
 have hs:=hspec ds hlen
 refine ⟨_,rfl,ds,[],p++[],[],p,[],hW',?_,?_,?_,bel.frame _,fun h=>by cases h⟩
 ·rw [List.append_nil,hs,hres]
  exact trodAll_mk1 (shut_bool hb _)
 ·rw [List.append_nil,hs]
  exact Zdv hl bel hr hA
 ·rw [List.append_nil,hs,hvars]
  rfl
theorem Zbj {P:Program} {ts:List TypeId} (h:ts.all (fun t=>P.readableRec t&&decide (t < P.types.size))=true):∀ t∈ts,P.readableRec t=true∧t < P.types.size:=fun t ht=>by
 have:=List.all_eq_true.1 h t ht
 simpa using this
/-! What an argument is, opened. -/
section
variable {H:Type} {enc:TypeId×Value→H} {P:Program} {W:World} {base:Nat} {r:Reach}
structure Came (W:World) (A:Option Addr) (n c:Nat) (bs:List UInt8):Prop where
 bytes:Bytes W W.heap.size A n bs
 cap:n≤c
 reach:c≤140737488351232
 bare:A=none→c=0
theorem Znk {n:Int} (h:(Lit.int .u8 n).wf=true):((UInt8.ofNat n.toNat).toNat:Int)=n:=by
 have:=bounds_u8 h
 rw [UInt8.toNat_ofNat']
 omega
end
end Go.Proofs.YtkelafkbmnjpeaaGreat
namespace Go.Proofs.YtkelafkbmnjpeaaGreat
end Go.Proofs.YtkelafkbmnjpeaaGreat
namespace Go.Proofs.YtkelafkbmnjpeaaGreat
open Go.ChangeShapes Go.WideShapes Go.ChangeAt Go.RowKit
def iV (x:Int):Value:=.int .i64 x
theorem infoI:(Tryz.prog.info? 3).map (fun i=>(i.zero,i.size,i.bytes))=some (some (.int .i64 0),1,8):=by kernel_rfl
theorem Zvw (xs:List Int):∀ u∈xs.map iV,u.oneCell'=true:=by
 intro u hu
 obtain ⟨b,_,rfl⟩:=List.mem_map.1 hu
 rfl
structure Ints (w:World) (A:Option Addr) (n c:Nat) (xs:List Int):Prop where
 row:Row w w.heap.size A n (xs.map iV)
 cap:n≤c
 bare:A=none→c=0
theorem Ints.len {w:World} {A:Option Addr} {n c:Nat} {xs:List Int} (h:Ints w A n c xs):xs.length=n:=by have:=h.row.len;simpa using this
theorem Ints.grow {w w':World} {A:Option Addr} {n c:Nat} {xs:List Int} (h:Ints w A n c xs) (hg:Grows w w'):Ints w' A n c xs:=⟨hg.row h.row,h.cap,h.bare⟩
theorem Ints.get {w:World} {A:Option Addr} {n c:Nat} {xs:List Int} (h:Ints w A n c xs) {j:Nat} (hj:j < n):∃ ad x,A=some ad∧w.cell? (ad.add j)=some (.int .i64 x)∧xs[j]?=some x∧ad.block < w.heap.size:=by
 have hl:=h.len
 have hx:xs[j]?=some xs[j]:=List.getElem?_eq_getElem (by omega)
 obtain ⟨ad,hA,hb,hc⟩:=h.row.spot j (iV xs[j]) (by rw [List.getElem?_map,hx];rfl)
 exact ⟨ad,xs[j],hA,hc,hx,hb⟩
theorem Ints.owned {w:World} {base n c:Nat} {A:Option Addr} {xs:List Int} (h:w.ownsRow base 3 1 (.slice A n c) n (xs.map iV)):Ints w A n c xs:=by
 refine ⟨Row.owned h,?_,?_⟩
 ·rcases h.2 with ⟨h1,h2⟩ | ⟨g,cap,_,h1,_,_,h2,_⟩
  ·omega
  ·injection h1 with _ _ h1;omega
 ·intro hA
  rcases h.2 with ⟨h1,h2⟩ | ⟨g,cap,_,h1,_⟩
  ·injection h1
  ·injection h1 with h1 _ _;rw [hA] at h1;cases h1
theorem Ints.lit {w:World} {g t:Nat} {cs:Array Value} (h:Whole w g t cs) (xs:List Int) {n:Nat} (he:cs=(xs.map iV).toArray) (hn:xs.length=n):Ints w (some ⟨g,0,none⟩) n n xs :=
 ⟨⟨by simpa using hn,fun k v hv=>⟨⟨g,0,none⟩,rfl,h.lt,by
   rw [show (⟨g,0,none⟩:Addr).add k=⟨g,k,none⟩ by unfold Addr.add;split <;> simp_all,h.cell k,he]
   simpa using hv⟩⟩,Nat.le_refl _,fun h=>by cases h⟩
section
variable {H:Type} {enc:TypeId×Value→H} {P:Program} {W:World} {base:Nat} {r:Reach}
theorem Zqr {t e:TypeId} {v:Value} {d:DataW H} {p:List MemPlace} (ht:P.underlying t=some (.slice e)) (he:P.underlying e=some (.int .i64)) (hc:P.cellsOf e=1)
 (hv:Value.okWide P W r base t v) (h:DataW.Trod enc P W 0 (fun _=>true) true t v d p):∃ A n c xs,v=.slice A n c∧Ints W A n c xs:=by
 obtain ⟨A,n,c,rfl⟩:=okWide_slice ht hv
 obtain ⟨fuel,hf⟩:=h
 rcases open_ints ht he hc hf with ⟨hcs,_⟩ | ⟨x,l,c',zs,hcs,_,hl,hm,hz,hx,hcell,hwz⟩
 ·simp [Value.cells] at hcs
  obtain ⟨rfl,rfl,rfl⟩:=hcs
  exact ⟨none,0,0,[],rfl,Row.nil _ _ _,Nat.le_refl _,fun _=>rfl⟩
 ·simp [Value.cells] at hcs
  obtain ⟨rfl,rfl,rfl⟩:=hcs
  have hz':zs.length=c:=by simpa using hz
  refine ⟨some x,n,c,zs.take n,rfl,⟨?_,fun k v hk=>?_⟩,hl,(fun h=>by cases h)⟩
  ·rw [List.length_map,List.length_take]
   omega
  ·rw [List.getElem?_map,List.getElem?_take] at hk
   split at hk
   ·rename_i hkn
    have hkz:k < zs.length:=by omega
    rw [List.getElem?_eq_getElem hkz] at hk
    have hcl:=hcell k hkz
    refine ⟨x,rfl,by have:=World.block_lt_of_cell? W _ hcl;rwa [Zj] at this,?_⟩
    simp only [Option.map_some,Option.some.injEq] at hk
    rw [hcl,←hk,iV,List.getD_eq_getElem?_getD,List.getElem?_eq_getElem hkz]
    rfl
   ·cases hk
end
end Go.Proofs.YtkelafkbmnjpeaaGreat
set_option maxHeartbeats 8000000
set_option maxRecDepth 100000
namespace Go.Proofs.YtkelafkbmnjpeaaGreat
open Go.Lib (hid)
open Go.RowKit Go.Maps Go.WideMaps
attribute [local irreducible] Go.wpQuiet
def left (l:List Int) (made n kept:Nat):Nat:=kept+(min (max (more l made) 0) ((n:Int) - kept)).toNat
theorem Zf7 (l:List Int) (made:Nat) {n kept:Nat} (h:kept≤n):left l made n kept≤n∧kept≤left l made n kept:=by
 unfold left
 omega
theorem Zlw {w:World} {b md n0 c0 kp:Nat} {A0:Option Addr} {l:List Int} {A:Option Addr} {n c:Nat} (h:Whole w b 108 #[.int .i64 (md:Int),.slice A0 n0 c0,.int .i64 (kp:Int)]) (hk:kp≤n0) (hc:n0≤c0) (hb:A0=none→c0=0) (hn0:n0≤1000000000)
 (hI:Ints w A n c l) (hmd:md≤1000000000) (hl:∀ x∈l,-9223372036854775808≤x∧x≤9223372036854775807) :
 Calls Tryz.prog 56 #[.pointer (some ⟨b,0,none⟩),.slice A n c] w fun e w'=>e=.returned (.tuple #[])∧Whole w' b 108 #[.int .i64 (md:Int),.slice A0 (left l md n0 kp) c0,.int .i64 (left l md n0 kp:Nat)]∧Zc (fun k=>k=b) w w':=by
 obtain ⟨n1,hn1⟩:∃ n1,left l md n0 kp=n1:=⟨_,rfl⟩
 have hle:=Zf7 l md hk
 rw [hn1] at hle ⊢
 have HCL:=hid (show ∀ w',Grows w w'→w'.cell? ⟨b,0,none⟩=some (.int .i64 (md:Int))∧w'.cell? ⟨b,1,none⟩=some (.slice A0 n0 c0)∧w'.cell? ⟨b,2,none⟩=some (.int .i64 (kp:Int)) from fun w' hg=>⟨hg.cellq h,hg.cellq h,hg.cellq h⟩)
 have c0':=(HCL.out w (Grows.refl w)).1
 have HW:=hid h
 have e1:IntKind.i64.wrap ((n0:Int) - (kp:Int))=(n0:Int) - kp:=IntWalk.i64_in _ (by omega)
 have hmr:-9223372036854775808≤more l md∧more l md≤9223372036854775807:=by
  unfold more
  split
  ·omega
  ·rename_i h0
   have hlt:md % l.length < l.length:=Nat.mod_lt _ (by omega)
   rw [List.getD_eq_getElem?_getD,List.getElem?_eq_getElem hlt]
   exact hl _ (List.getElem_mem hlt)
 have e2:IntKind.i64.wrap ((kp:Int)+min (max (more l md) 0) ((n0:Int) - kp))=(n1:Int):=by
  rw [IntWalk.i64_in _ (by omega),←hn1]
  unfold left
  omega
 have q1:n1≤c0:=by omega
 have HB:=hid (And.intro hb (And.intro hle (And.intro hk hc)))
 have HMI:=hid hI
 have HM:=hid (And.intro hmd hl)
 -- the two ways
 rcases Nat.eq_zero_or_pos n with hz | hz
 ·subst hz
  have hl0:l=[]:=List.eq_nil_of_length_eq_zero hI.len
  have em:more l md=0:=by rw [hl0];rfl
  rw [em,show max (0:Int) 0=0 from rfl] at e2
  clear h hk hc hb hn0 hI hmd hl hn1 hle hl0 em hmr
  go_enter Tryz.func56,Tryz.ntmps56
  go_wp2_with (fail)
  refine Ye mixed (by kernel_rfl) ?_
  iterate 14 (refine q_op' (v:=?_) (a':=?_) (by rfl) ?_ ?_ ?_
              rotate_left 2
              ·intro w' hC
               obtain ⟨z0,z1,z2⟩:=HCL.out w' hC
               clear hC
               go_simp
               try with_reducible rfl
              ·simp only [Pu]
               try rfl)
  refine wpQuiet_nil ?_
  intro w2 hC
  have HCw2:=hid hC
  clear hC
  go_wp2_with (fail)
  have HC4:=hid (fun w' (hg:Grows w2 w')=>HCL.out w' (HCw2.out.trans hg))
  generalize min (0:Int) ((n0:Int) - (kp:Int))=g0 at *
  have q0:(0:Int)≤(n1:Int):=by omega
  have q2:(n1:Int)≤(c0:Int):=by omega
  refine Ze (E:=Grows) 14 [Zb (.pointer (some ⟨b,0,none⟩)),Zb (.pointer (some ⟨b,0,none⟩)),Zb (.pointer (some ⟨b,0,none⟩)),Zb (.pointer (some ⟨b,1,none⟩)),Zb (.slice A0 n0 c0),Zb (.pointer (some ⟨b,0,none⟩)),Zb (.pointer (some ⟨b,0,none⟩)),Zb (.pointer (some ⟨b,2,none⟩)),Zb (.int .i64 (kp:Int)),Zb (.int .i64 g0),Zb (.int .i64 (n1:Int)),Zb (.slice A0 n1 c0),Zb (.pointer (some ⟨b,0,none⟩)),Zb (.pointer (some ⟨b,1,none⟩))] mixed (by kernel_rfl) (fun _ _ _=>Grows.trans) (Zf _) ?_
  simp only [List.take_succ_cons,List.take_zero,List.drop_succ_cons,List.drop_zero]
  iterate 14
   refine f_val _ (by rfl) ?_ ?_
   ·intro w' hC;obtain ⟨z0,z1,z2⟩:=HC4.out w' hC;clear hC;go_simp
   simp only [Pu]
  refine Zu ?_
  intro w3 hC hks
  have HCw3:=hid hC
  clear hC hks
  have c1:=(HC4.out w3 HCw3.out).2.1
  have k3:=HCw3.out.whole (HCw2.out.whole HW.out)
  have f1:=k3.free 1
  have HK3:=hid k3
  clear k3
  go_wp2_with (fail)
  have k4:Whole (w3.setCell ⟨b,1,none⟩ (.slice A0 n1 c0)) b 108 #[.int .i64 (md:Int),.slice A0 n1 c0,.int .i64 (kp:Int)]:=HK3.out.put 1 _
  have HKE:=hid (Zi8 _ k4)
  have HK4:=hid k4
  clear k4
  refine HKE.out.mono ?_
  rintro e w5 ⟨rfl,hw5⟩
  have HW5:=hid hw5
  clear hw5 HKE
  go_wp2_with (fail)
  go_end0
  rw [HW5.out]
  exact ⟨rfl,HK4.out.put 2 _,((Zc.grows (own:=fun k=>k=b) (HCw2.out.trans HCw3.out)).setCell (p:=⟨b,1,none⟩) rfl _).setCell (p:=⟨b,2,none⟩) rfl _⟩
 ·obtain ⟨ad,x,rfl,hx1,hx2,hx3⟩:=hI.get (j:=md % n) (Nat.mod_lt _ hz)
  have em:more l md=x:=by
   unfold more
   rw [if_neg (by rw [hI.len];omega),hI.len,List.getD_eq_getElem?_getD,hx2]
   rfl
  rw [em] at e2 hmr
  have r1:(md:Int).tmod (n:Int)=((md % n:Nat):Int):=by
   rw [Int.tmod_eq_emod_of_nonneg (by omega)]
   rfl
  have r2:((md % n:Nat):Int) < (n:Int):=by have:=Nat.mod_lt md hz;omega
  have r3:(0:Int)≤((md % n:Nat):Int):=by omega
  have z1:(0:Int) < (n:Int):=by omega
  have z2:((n:Int)==0)=false:=by rw [beq_eq_false_iff_ne];omega
  have z3:¬ (n:Int)=0:=by omega
  have r4:IntKind.i64.wrap ((md % n:Nat):Int)=((md % n:Nat):Int):=IntWalk.i64_in _ (by have:=Nat.mod_le md n;omega)
  generalize hq:md % n=q at *
  have HQ:=hid hq
  clear h hk hc hb hn0 hI hmd hl hn1 hle em hmr hx2 hx3 hq hz
  go_enter Tryz.func56,Tryz.ntmps56
  go_wp2_with (fail)
  refine Ye mixed (by kernel_rfl) ?_
  iterate 14 (refine q_op' (v:=?_) (a':=?_) (by rfl) ?_ ?_ ?_
              rotate_left 2
              ·intro w' hC
               obtain ⟨z0,z1,z2⟩:=HCL.out w' hC
               clear hC
               go_simp
               try with_reducible rfl
              ·simp only [Pu]
               try rfl)
  refine wpQuiet_nil ?_
  intro w2 hC
  have HCw2:=hid hC
  clear hC
  go_wp2_with (fail)
  have HC4:=hid (fun w' (hg:Grows w2 w')=>HCL.out w' (HCw2.out.trans hg))
  generalize min (max x 0) ((n0:Int) - (kp:Int))=g0 at *
  have q0:(0:Int)≤(n1:Int):=by omega
  have q2:(n1:Int)≤(c0:Int):=by omega
  refine Ze (E:=Grows) 14 [Zb (.pointer (some ⟨b,0,none⟩)),Zb (.pointer (some ⟨b,0,none⟩)),Zb (.pointer (some ⟨b,0,none⟩)),Zb (.pointer (some ⟨b,1,none⟩)),Zb (.slice A0 n0 c0),Zb (.pointer (some ⟨b,0,none⟩)),Zb (.pointer (some ⟨b,0,none⟩)),Zb (.pointer (some ⟨b,2,none⟩)),Zb (.int .i64 (kp:Int)),Zb (.int .i64 g0),Zb (.int .i64 (n1:Int)),Zb (.slice A0 n1 c0),Zb (.pointer (some ⟨b,0,none⟩)),Zb (.pointer (some ⟨b,1,none⟩))] mixed (by kernel_rfl) (fun _ _ _=>Grows.trans) (Zf _) ?_
  simp only [List.take_succ_cons,List.take_zero,List.drop_succ_cons,List.drop_zero]
  iterate 14
   refine f_val _ (by rfl) ?_ ?_
   ·intro w' hC;obtain ⟨z0,z1,z2⟩:=HC4.out w' hC;clear hC;go_simp
   simp only [Pu]
  refine Zu ?_
  intro w3 hC hks
  have HCw3:=hid hC
  clear hC hks
  have c1:=(HC4.out w3 HCw3.out).2.1
  have k3:=HCw3.out.whole (HCw2.out.whole HW.out)
  have f1:=k3.free 1
  have HK3:=hid k3
  clear k3
  go_wp2_with (fail)
  have k4:Whole (w3.setCell ⟨b,1,none⟩ (.slice A0 n1 c0)) b 108 #[.int .i64 (md:Int),.slice A0 n1 c0,.int .i64 (kp:Int)]:=HK3.out.put 1 _
  have HKE:=hid (Zi8 _ k4)
  have HK4:=hid k4
  clear k4
  refine HKE.out.mono ?_
  rintro e w5 ⟨rfl,hw5⟩
  have HW5:=hid hw5
  clear hw5 HKE
  go_wp2_with (fail)
  go_end0
  rw [HW5.out]
  exact ⟨rfl,HK4.out.put 2 _,((Zc.grows (own:=fun k=>k=b) (HCw2.out.trans HCw3.out)).setCell (p:=⟨b,1,none⟩) rfl _).setCell (p:=⟨b,2,none⟩) rfl _⟩
end Go.Proofs.YtkelafkbmnjpeaaGreat
namespace Go.Proofs.YtkelafkbmnjpeaaGreat
open Go.RowKit Go.Maps Go.WideMaps
def Yn (files:Nat→Fl) (names:Dir) (l:List Int) (lf:Lit→Bool):Nat→Fl:=fun i=>if names.any (fun p=>p.2==i&&!lf (.string p.1)) then (files i).lose (more l i) else files i
def Y2 (files:Nat→Fl) (names:Dir) (l:List Int) (lf:Lit→Bool):Int:=(names.map fun p=>if lf (.string p.1) then 0 else (((files p.2).lose (more l p.2)).bytes.length:Int)).sum
theorem Zoj (f:Fl) (x:Int):(f.lose x).lose x=f.lose x:=by
 unfold Fl.lose
 generalize hn:f.kept+(min (max x 0) ((f.bytes.length:Int) - f.kept)).toNat=n
 have h1:(f.bytes.take n).length≤n:=by rw [List.length_take];omega
 have h2:(min (max x 0) (((f.bytes.take n).length:Int) - n)).toNat=0:=by omega
 simp only [h2,Nat.add_zero,List.take_take,Nat.min_self]
theorem Zp6 {l:Dir} {p:Nm×Nat} (h:p∈l):Maps.has (encD (H:=Unit) l) (.string p.1)=true:=by
 rw [Zqn]
 unfold Dir.find
 rw [Option.isSome_map,List.find?_isSome]
 exact ⟨p,h,by simp⟩
section
variable (files:Nat→Fl) (l:List Int)
theorem Zok (names:Dir):Yn files names l (Maps.has (encD (H:=Unit) names))=files∧Y2 files names l (Maps.has (encD (H:=Unit) names))=0:=by
 constructor
 ·funext i
  unfold Yn
  rw [if_neg]
  rw [Bool.not_eq_true,List.any_eq_false]
  intro p hp
  rw [Zp6 hp]
  simp
 ·unfold Y2
  have:(names.map fun p=>if Maps.has (encD (H:=Unit) names) (.string p.1) then (0:Int) else (((files p.2).lose (more l p.2)).bytes.length:Int))=names.map fun _=>0:=List.map_congr_left fun p hp=>by rw [Zp6 hp];rfl
  rw [this]
  have z:∀ l:Dir,(l.map fun _=>(0:Int)).sum=0:=fun l=>by
   induction l with
   | nil=>rfl
   | cons a r ih=>simpa using ih
  exact z names
theorem Ztp {names:Dir} {lf:Lit→Bool} (h:∀ kl,lf kl=false) :
 Yn files names l lf=(fun i=>if names.any (fun p=>p.2==i) then (files i).lose (more l i) else files i)∧Y2 files names l lf=(names.map fun p=>((((fun i=>if names.any (fun p=>p.2==i) then (files i).lose (more l i) else files i) p.2:Fl).bytes.length:Nat):Int)).sum:=by
 constructor
 ·funext i
  unfold Yn
  simp only [h,Bool.not_false,Bool.and_true]
 ·unfold Y2
  congr 1
  refine List.map_congr_left fun p hp=>?_
  have:names.any (fun q=>q.2==p.2)=true:=List.any_eq_true.2 ⟨p,hp,by simp⟩
  simp [h,this]
theorem Zp7 {names:Dir} (hnd:(names.map (·.1)).Nodup) {lf:Lit→Bool} {x:Nm} {f:Nat} (hf:Dir.find x names=some f) (hl:lf (.string x)=true) :
 Yn files names l (fun z=>lf z&&!z.sameKey (.string x))=(fun i=>if i=f then (Yn files names l lf f).lose (more l f) else Yn files names l lf i) ∧
 Y2 files names l (fun z=>lf z&&!z.sameKey (.string x))=Y2 files names l lf+(((files f).lose (more l f)).bytes.length:Int)∧(Yn files names l lf f).lose (more l f)=(files f).lose (more l f):=by
 have hmem:(x,f)∈names:=by
  unfold Dir.find at hf
  obtain ⟨p,hp,e⟩:=Option.map_eq_some_iff.1 hf
  have h1:=List.find?_some hp
  have h2:=List.mem_of_find?_eq_some hp
  have h1:p.1=x:=by simpa using h1
  subst h1;subst e
  exact h2
 have huniq:∀ p∈names,p.1=x→p=(x,f):=fun p hp e=>by
  have:=(List.pairwise_map.1 hnd)
  rcases List.mem_iff_getElem.1 hp with ⟨i,hi,rfl⟩
  rcases List.mem_iff_getElem.1 hmem with ⟨j,hj,hj2⟩
  have hij:i=j:=by
   rcases Nat.lt_trichotomy i j with h | h | h
   ·exact absurd (by rw [hj2];exact e) (List.pairwise_iff_getElem.1 this i j hi hj h)
   ·exact h
   ·exact absurd (by rw [hj2];exact e.symm) (List.pairwise_iff_getElem.1 this j i hj hi h)
  subst hij
  exact hj2
 have hidem:(Yn files names l lf f).lose (more l f)=(files f).lose (more l f):=by
  unfold Yn
  split
  ·exact Zoj _ _
  ·rfl
 refine ⟨?_,?_,hidem⟩
 ·funext i
  by_cases hi:i=f
  ·subst hi
   rw [if_pos rfl,hidem]
   unfold Yn
   rw [if_pos]
   refine List.any_eq_true.2 ⟨_,hmem,?_⟩
   simp [Zgc]
  ·rw [if_neg hi]
   unfold Yn
   have:(names.any fun p=>p.2==i&&!(lf (.string p.1)&&!(Lit.string p.1).sameKey (.string x)))=names.any fun p=>p.2==i&&!lf (.string p.1):=by
    rw [Bool.eq_iff_iff,List.any_eq_true,List.any_eq_true]
    constructor
    ·rintro ⟨p,hp,h⟩
     simp only [Zgc,Bool.and_eq_true,beq_iff_eq,Bool.not_eq_true',Bool.and_eq_false_iff,Bool.not_eq_false'] at h
     obtain ⟨h1,h2⟩:=h
     refine ⟨p,hp,?_⟩
     rcases h2 with h2 | h2
     ·simp [h1,h2]
     ·have:=huniq p hp h2
      rw [this] at h1
      exact absurd h1.symm hi
    ·rintro ⟨p,hp,h⟩
     simp only [Bool.and_eq_true,beq_iff_eq,Bool.not_eq_true'] at h
     exact ⟨p,hp,by simp [h.1,h.2]⟩
   rw [this]
 ·unfold Y2
  clear hidem hf
  induction names with
  | nil=>cases hmem
  | cons a r ih =>
    simp only [List.map_cons,List.nodup_cons] at hnd
    simp only [List.map_cons,List.sum_cons]
    by_cases ha:a=(x,f)
    ·subst ha
     have hr:(r.map fun p=>if (lf (.string p.1)&&!(Lit.string p.1).sameKey (.string x))=true then (0:Int) else (((files p.2).lose (more l p.2)).bytes.length:Int))=r.map fun p=>if lf (.string p.1)=true then (0:Int) else (((files p.2).lose (more l p.2)).bytes.length:Int) :=
      List.map_congr_left fun p hp=>by
       have:p.1≠x:=fun e=>hnd.1 (List.mem_map.2 ⟨p,hp,e⟩)
       have:(p.1==x)=false:=by rw [beq_eq_false_iff_ne];exact this
       simp [Zgc,this]
     rw [hr]
     simp [Zgc,hl]
     omega
    ·have hm:(x,f)∈r:=by
      rcases List.mem_cons.1 hmem with e | e
      ·exact absurd e.symm ha
      ·exact e
     have hax:(a.1==x)=false:=by
      rw [beq_eq_false_iff_ne]
      exact fun e=>ha (huniq a (List.mem_cons_self) e)
     rw [ih hnd.2 hm (fun p hp=>huniq p (List.mem_cons_of_mem _ hp))]
     simp [Zgc,hax]
     omega
end
end Go.Proofs.YtkelafkbmnjpeaaGreat
