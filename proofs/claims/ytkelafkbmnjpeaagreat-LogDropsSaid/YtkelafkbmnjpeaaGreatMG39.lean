/-
  Texts that the statements lean on, one behind the other.
-/
import Derived.Test.YtkelafkbmnjpeaaGreatMG24
import Derived.Test.YtkelafkbmnjpeaaGreatMG34
import Derived.Test.YtkelafkbmnjpeaaGreatMG20
import Derived.Test.YtkelafkbmnjpeaaGreatMG37
import Derived.Test.YtkelafkbmnjpeaaGreatMG08
import Derived.Test.YtkelafkbmnjpeaaGreatMG11
import Derived.Deep.SlicePairs
import Derived.Test.YtkelafkbmnjpeaaGreatMG18
import Derived.Test.YtkelafkbmnjpeaaGreatMG03
import Derived.LoopTactic
import Derived.Test.YtkelafkbmnjpeaaGreatMG38
import Derived.Test.YtkelafkbmnjpeaaGreatMG21
namespace Go.Proofs.YtkelafkbmnjpeaaGreat
open Go.RowKit
section
variable {B d l n c:Nat} {w0 w w':World} {out out':Nat→Prop} {A:Option Addr} {L:Lg}
theorem LgAt.off {w':World} {oth:Nat→Prop} (h:LgAt B w0 w d l out A n c L) (hs:Zc oth w w') (ho:∀ k,oth k→k < w.heap.size→out k) (hB:∀ k,oth k→B≤k):LgAt B w0 w' d l (fun k=>out k∨(w.heap.size≤k∧k < w'.heap.size)) A n c L:=by
 have hl:=h.lt
 have hAl:∀ ad,A=some ad→ad.block < w.heap.size:=fun ad e=>h.dk.lt (.inr (.inr ⟨ad,e,rfl⟩))
 obtain ⟨⟨own,G,h1,h2,h3,h4,h5,h6⟩,k2,k3,k4,k5,k6⟩:=h
 have hno:∀ k,oth k→k < w.heap.size→k≠l∧(∀ ad,A=some ad→k≠ad.block):=fun k hk hlt=>⟨fun e=>k5 (e ▸ ho k hk hlt),fun ad e e2=>(k6 ad e).2 (e2 ▸ ho k hk hlt)⟩
 refine ⟨⟨own,G,h1.spare hs fun k hk e=>?_,h2,h3,h4.trans (hs.below h5 fun k hk e=>by have:=hB k e;omega),Nat.le_trans h5 hs.size,fun k hk=>?_⟩,k2.same (hs.same _ hl fun e=>(hno l e hl).1 rfl),?_,k4,?_,?_⟩
 ·have:=h6 k (.inl (ho k e (h1.lt hk)))
  rcases hk with hk | hk
  ·exact this.2.1 hk
  ·exact this.2.2 hk
 ·rcases hk with (hk | hk) | hk | hk
  ·exact ⟨Nat.lt_of_lt_of_le (h6 k (.inl hk)).1 hs.size,(h6 k (.inl hk)).2⟩
  ·exact ⟨hk.2,fun e=>by have:=h1.top.lt;omega,fun e=>by have:=h1.rest.lt k e;omega⟩
  ·exact ⟨Nat.lt_of_lt_of_le (h6 k (.inr (.inl hk))).1 hs.size,(h6 k (.inr (.inl hk))).2⟩
  ·exact ⟨Nat.lt_of_lt_of_le (h6 k (.inr (.inr hk))).1 hs.size,(h6 k (.inr (.inr hk))).2⟩
 ·refine Z5 k3 fun k hk=>hs.same k (k3.lt k hk).2 fun e=>?_
  rcases Yr k3 with ⟨rfl,_⟩ | ⟨g,rfl,_,hg⟩
  ·cases hk
  ·injection hk with hk
   rw [←hk] at e
   exact (hno g e hg).2 _ rfl rfl
 ·rintro (e | e)
  ·exact k5 e
  ·omega
 ·intro ad e
  refine ⟨(k6 ad e).1,?_⟩
  rintro (e2 | e2)
  ·exact (k6 ad e).2 e2
  ·have:=hAl ad e;omega
theorem LgIn.dkIn (h:LgIn B w0 w d l out L):DkIn B w0 w d out L.dk:=by
 obtain ⟨A,n,c,h⟩:=h
 exact h.dk.less fun k hk=>.inl hk
theorem LgIn.grown (h:LgIn B w0 w d l out L) {row:Option Nat} (hg:w.grownBy w' row) (hr:∀ g,row=some g→out g) (hB:∀ g,row=some g→B≤g):LgIn B w0 w' d l (fun k=>out k∨(w.heap.size≤k∧k < w'.heap.size)) L:=by
 obtain ⟨A,n,c,h⟩:=h
 exact (h.off ((Zc.refl (fun k=>row=some k) w).grown hg fun g e=>e) (fun k hk _=>hr k hk) fun k hk=>hB k hk).in
theorem LgIn.more (h:LgIn B w0 w d l out L) (hg:Grows w w'):LgIn B w0 w' d l (fun k=>out k∨(w.heap.size≤k∧k < w'.heap.size)) L:=by
 obtain ⟨A,n,c,h⟩:=h
 exact (h.more hg).in
structure OwnG (B:Nat) (w:World) (out:Nat→Prop) (t:TypeId) (sz:Nat) (A:Option Addr) (n c:Nat) (xs:List Value):Prop where
 own:w.ownsRow B t sz (.slice A n c) n xs
 mine:∀ g,(Value.slice A n c).ownBlock=some g→out g
variable {t:TypeId} {sz:Nat} {xs:List Value}
theorem OwnG.nil (B:Nat) (w:World) (out:Nat→Prop) (t:TypeId) (sz:Nat):OwnG B w out t sz none 0 0 []:=⟨World.ownsRow_nil _ _ _ _,fun g h=>by cases h⟩
theorem OwnG.stays (h:OwnG B w out t sz A n c xs) (hs:Stays B out w w'):OwnG B w' out t sz A n c xs:=⟨Z5 h.own fun k hk=>hs.same k (h.own.lt k hk).2 fun e=>e.2 (h.mine k hk),h.mine⟩
theorem OwnG.grow (h:OwnG B w out t sz A n c xs) (hg:Grows w w'):OwnG B w' out t sz A n c xs:=⟨Zd h.own hg,h.mine⟩
theorem OwnG.low (h:OwnG B w out t sz A n c xs):∀ g,(Value.slice A n c).ownBlock=some g→B≤g:=fun g e=>(h.own.lt g e).1
theorem OwnG.snoc (h:OwnG B w out t sz A n c xs) {A1:Option Addr} {n1 c1 v:Nat} {ys:List Value} (hown:w'.ownsRow B t sz (.slice A1 n1 c1) n1 ys)
 (hat:(Value.slice A1 n1 c1).ownBlock=(Value.slice A n c).ownBlock∨(Value.slice A1 n1 c1).ownBlock=some v) (hv:v < w'.heap.size→out' v) (ho:∀ k,out k→out' k):OwnG B w' out' t sz A1 n1 c1 ys:=by
 refine ⟨hown,fun g e=>?_⟩
 rcases hat with hat | hat
 ·exact ho g (h.mine g (hat ▸ e))
 ·have e2:v=g:=by rw [hat] at e;exact Option.some.inj e
  subst e2
  exact hv (hown.lt _ hat).2
end
end Go.Proofs.YtkelafkbmnjpeaaGreat
set_option maxHeartbeats 4000000
set_option maxRecDepth 100000
namespace Go.Proofs.YtkelafkbmnjpeaaGreat
open Go.Lib (hid)
open Go.RowKit
attribute [local irreducible] Go.wpQuiet
theorem Zbe (A:Option Addr) (n c:Nat) (xs:List Int) (x:Int) (w:World) (ha:Row w w.heap.size A n (xs.map iV)) (hn:n≤1000000000000) :
 Calls Tryz.prog 41 #[.slice A n c,.int .i64 x] w fun e w'=>e=.returned (.bool (decide (x∈xs)))∧Grows w w':=by
 have hlx:xs.length=n:=by have:=ha.len;simpa using this
 obtain ⟨b,hbb⟩:∃ b,decide (x∈xs)=b:=⟨_,rfl⟩
 rw [hbb]
 have HBB:=hid hbb
 have HX:=hid ha
 clear ha hbb
 go_enter Tryz.func41,Tryz.ntmps41
 go_wp2_with (fail)
 go_loopw [5] (fun i wr=>∃ (j:Nat),j≤n∧i=.int .i64 (j:Int)∧Hid (¬ x∈xs.take j)∧Hid (Grows w wr)) (fun i _=>n - (intOf i).toNat)
 case atStart=>exact ⟨0,by omega,rfl,hid (by simp),hid (Grows.refl _)⟩
 case round =>
  obtain ⟨j,hj,rfl,HT,HG⟩:=hrel
  by_cases hlt:j < n
  ·have hlt':(j:Int) < (n:Int):=by omega
   have hj0:(0:Int)≤(j:Int):=by omega
   have e5:IntKind.i64.wrap ((j:Int)+1)=(j:Int)+1:=IntWalk.i64_in _ ⟨by omega,by omega⟩
   obtain ⟨ad,y,rfl,hc1,hx1,hb1⟩:=Zj1 HX.out hlt
   have HC1:=hid (show ∀ w',Grows wr w'→w'.cell? (ad.add j)=some (.int .i64 y) from fun w' h=>by
    rw [(Grows.trans HG.out h).cell (by rw [Zj];exact hb1)];exact hc1)
   have HXY:=hid hx1
   clear hc1 hx1
   have c1:=HC1.out wr (Grows.refl _)
   have HG5:=HG
   by_cases hxy:y=x
   ·have hxf:(y==x)=true:=by rw [beq_iff_eq];exact hxy
    have HBF:=hid (show b=true by
     rw [←HBB.out]
     exact decide_eq_true (hxy ▸ List.mem_of_getElem? HXY.out))
    clear hxy
    go_wp2_with (fail)
    go_ret
    rw [HBF.out]
    exact ⟨rfl,HG5.out⟩
   ·have hxf:(y==x)=false:=by rw [beq_eq_false_iff_ne];exact hxy
    have HN:=hid (show ¬ x∈xs.take (j+1) by
     rw [List.take_add_one,HXY.out]
     intro h
     rcases List.mem_append.1 h with h | h
     ·exact HT.out h
     ·exact hxy (List.mem_singleton.1 h).symm)
    clear hxy
    go_wp2_with (fail)
    exact ⟨⟨j+1,by omega,rfl,HN,HG5⟩,by simp [intOf];omega⟩
  ·obtain rfl:j=n:=by omega
   have HBT:=hid (show b=false by
    rw [←HBB.out]
    refine decide_eq_false fun h=>HT.out ?_
    rw [List.take_of_length_le (by omega)]
    exact h)
   go_wp2_with (fail)
   go_ret
   rw [HBT.out]
   exact ⟨rfl,HG.out⟩
end Go.Proofs.YtkelafkbmnjpeaaGreat
set_option maxRecDepth 100000
namespace Go.Proofs.YtkelafkbmnjpeaaGreat
open Go.ChangeShapes Go.WideShapes Go.ChangeAt Go.RowKit
section
variable {H:Type} {enc:TypeId×Value→H} {W:World} {base:Nat} {r:Reach}
theorem Zw4 {m:Nat} {a:Value} {x:DataW H×List MemPlace} (h:DataW.trod enc Tryz.prog W 0 (fun _=>true) true m 37 [a]=some x):∃ A n c bs,a=.slice A n c∧Sl W A n c bs:=by
 rcases open_ints Tryz.underlying37 Tryz.underlying5 (by kernel_rfl) h with ⟨hcs,_⟩ | ⟨x,l,c,zs,hcs,_,hl,hm,hz,_,hcell,hwz⟩
 ·simp at hcs
  exact ⟨none,0,0,[],hcs,Sl.nil _⟩
 ·simp at hcs
  have hz':zs.length=c:=by simpa using hz
  refine ⟨some x,l,c,(zs.take l).map (fun z=>UInt8.ofNat z.toNat),hcs,⟨?_,?_⟩,hl,fun h=>by cases h⟩
  ·rw [List.length_map,List.length_map,List.length_take]
   omega
  ·intro k v hk
   rw [List.map_map,List.getElem?_map,List.getElem?_take] at hk
   split at hk
   ·rename_i hkn
    have hkz:k < zs.length:=by omega
    rw [List.getElem?_eq_getElem hkz] at hk
    have hcl:=hcell k hkz
    refine ⟨x,rfl,by have:=World.block_lt_of_cell? W _ hcl;rwa [Zj] at this,?_⟩
    have hw:=Znk (hwz zs[k] (List.getElem_mem hkz))
    have hv':v=byteV (UInt8.ofNat zs[k].toNat):=by
     simp only [Option.map_some,Function.comp,Option.some.injEq] at hk
     exact hk.symm
    rw [hcl,hv',byteV,hw,List.getD_eq_getElem?_getD,List.getElem?_eq_getElem hkz]
    rfl
   ·cases hk
theorem Zlm {m:Nat} {a:Value} {x:DataW H×List MemPlace} (h:DataW.trod enc Tryz.prog W 0 (fun _=>true) true m 36 [a]=some x):∃ A n c ls,a=.slice A n c∧Locs W A n c ls:=by
 have ce:Tryz.prog.cellsOf 140=3:=by kernel_rfl
 have ci:Tryz.prog.cellsOf 3=1:=by kernel_rfl
 rcases DataW.trod_slice Tryz.underlying36 h with ⟨hcs,_⟩ | ⟨ad,len,cap,elems,rest,k,_,hcs,_,_,hl,_,hlen,hel,_⟩
 ·simp at hcs
  exact ⟨none,0,0,[],hcs,Locs.nil _⟩
 ·simp at hcs
  have each:∀ i,i < len→∃ l:Lc,W.cell? (ad.add (i*3))=some (.int .i64 l.1)∧W.cell? (ad.add (i*3+1))=some (.int .i64 l.2.1)∧W.cell? (ad.add (i*3+2))=some (.int .i64 l.2.2):=by
   intro i hi
   have h1:=hel i hi
   rw [ce,List.getElem?_eq_getElem (by omega)] at h1
   obtain ⟨cs',h2,h3⟩:=Option.bind_eq_some_iff.1 h1
   obtain ⟨_,hlen',hcell⟩:=World.cells?_some h2
   obtain ⟨ys,k',_,_,_,hyl,hf⟩:=DataW.trod_struct Tryz.underlying140 h3
   match ys,hyl,cs',hlen' with
   | [y0,y1,y2],_,[v0,v1,v2],_ =>
     have g0:DataW.trod enc Tryz.prog W 0 (fun _=>true) true k' 3 [v0]=some y0:=by
      have h:=hf 0 { name := "Seg", type:=3,offset:=0,embedded:=false,tag := "", pkgPath := "", byteOffset:=0 } rfl
      dsimp only at h
      rw [ci] at h
      exact h
     have g1:DataW.trod enc Tryz.prog W 0 (fun _=>true) true k' 3 [v1]=some y1:=by
      have h:=hf 1 { name := "At", type:=3,offset:=1,embedded:=false,tag := "", pkgPath := "", byteOffset:=8 } rfl
      dsimp only at h
      rw [ci] at h
      exact h
     have g2:DataW.trod enc Tryz.prog W 0 (fun _=>true) true k' 3 [v2]=some y2:=by
      have h:=hf 2 { name := "N", type:=3,offset:=2,embedded:=false,tag := "", pkgPath := "", byteOffset:=16 } rfl
      dsimp only at h
      rw [ci] at h
      exact h
     obtain ⟨z0,e0,_⟩:=DataW.trod_int Tryz.underlying3 g0
     obtain ⟨z1,e1,_⟩:=DataW.trod_int Tryz.underlying3 g1
     obtain ⟨z2,e2,_⟩:=DataW.trod_int Tryz.underlying3 g2
     have c0:=hcell 0 (by omega)
     have c1:=hcell 1 (by omega)
     have c2:=hcell 2 (by omega)
     rw [Jn] at c0 c1 c2
     simp at c0 c1 c2 e0 e1 e2
     subst e0 e1 e2
     exact ⟨(z0,z1,z2),c0,c1,c2⟩
  obtain ⟨f,hf⟩:=Go.Deep.choose_lt each
  refine ⟨some ad,len,cap,(List.range len).map f,hcs,by simp,hl,(fun h=>by cases h),⟨by rw [lcCells_length];simp,fun k v hv=>?_⟩⟩
  have hk:k < 3*len:=by
   rcases Nat.lt_or_ge k (3*len) with h | h
   ·exact h
   ·rw [List.getElem?_eq_none (by rw [lcCells_length];simpa using h)] at hv
    cases hv
  obtain ⟨i,j,e,hj,hi⟩:∃ i j,k=3*i+j∧j < 3∧i < len:=⟨k / 3,k % 3,by omega,by omega,by omega⟩
  have hg:((List.range len).map f)[i]?=some (f i):=by rw [List.getElem?_map,List.getElem?_range hi];rfl
  obtain ⟨g0,g1,g2⟩:=lcCells_get _ i _ hg
  obtain ⟨c0,c1,c2⟩:=hf i hi
  have hcell:W.cell? (ad.add k)=some v:=by
   match j,hj with
   | 0,_ =>
     subst e
     rw [show 3*i+0=3*i from rfl] at hv ⊢
     rw [g0] at hv
     rw [Nat.mul_comm,c0]
     exact hv
   | 1,_ =>
     subst e
     rw [g1] at hv
     rw [Nat.mul_comm,c1]
     exact hv
   | 2,_ =>
     subst e
     rw [g2] at hv
     rw [Nat.mul_comm,c2]
     exact hv
  exact ⟨ad,rfl,by have:=World.block_lt_of_cell? W _ hcell;rwa [Zj] at this,hcell⟩
end
end Go.Proofs.YtkelafkbmnjpeaaGreat
set_option maxRecDepth 100000
namespace Go.Proofs.YtkelafkbmnjpeaaGreat
open Go.ChangeShapes Go.WideShapes Go.ChangeAt Go.RowKit
instance:Inhabited (Rc×Fh):=⟨(Rc.none,((Option.none,0,0),(Option.none,0,0)))⟩
def rcL (x:Rc) (p:Fh):List Value:=[.int .i64 x.kind,.string ⟨x.key.toArray⟩,.int .i64 x.id,.int .i64 x.no,.int .i64 x.size,.slice p.1.1 p.1.2.1 p.1.2.2,.slice p.2.1 p.2.2.1 p.2.2.2]
structure Recs (w:World) (A:Option Addr) (n c:Nat) (rs:List Rc):Prop where
 len:rs.length=n
 cap:n≤c
 spot:∀ i,i < n→∃ (ad:Addr) (r:Rc) (p:Fh),A=some ad∧ad.block < w.heap.size∧rs[i]?=some r∧RcIn w p.1.1 p.1.2.1 p.1.2.2 p.2.1 p.2.2.1 p.2.2.2 r∧∀ k,k < 7→w.cell? ((ad.add (i*7)).add k)=(rcL r p)[k]?
theorem Zfz {w wr:World} {a:Addr} {o:Rc} {p:Fh} (hb:a.block < w.heap.size) (hc:∀ k,k < 7→w.cell? (a.add k)=(rcL o p)[k]?) (hg:Grows w wr) :
 wr.cell? a=some (.int .i64 o.kind)∧wr.cell? { block:=a.block,off:=a.off+1 }=some (.string ⟨o.key.toArray⟩)∧wr.cell? { block:=a.block,off:=a.off+2 }=some (.int .i64 o.id) ∧
  wr.cell? { block:=a.block,off:=a.off+3 }=some (.int .i64 o.no)∧wr.cell? { block:=a.block,off:=a.off+4 }=some (.int .i64 o.size)∧wr.cell? { block:=a.block,off:=a.off+5 }=some (.slice p.1.1 p.1.2.1 p.1.2.2) ∧
  wr.cell? { block:=a.block,off:=a.off+6 }=some (.slice p.2.1 p.2.2.1 p.2.2.2):=by
 have key:∀ k,k < 7→wr.cell? (a.add k)=(rcL o p)[k]?:=fun k hk=>(hg.cell (by rw [Zj];exact hb)).trans (hc k hk)
 have h0:=key 0 (by omega)
 rw [show a.add 0=a by unfold Addr.add;simp] at h0
 have h1:=key 1 (by omega)
 have h2:=key 2 (by omega)
 have h3:=key 3 (by omega)
 have h4:=key 4 (by omega)
 have h5:=key 5 (by omega)
 have h6:=key 6 (by omega)
 rw [Addr.add_succ'] at h1 h2 h3 h4 h5 h6
 exact ⟨h0,h1,h2,h3,h4,h5,h6⟩
section
variable {H:Type} {enc:TypeId×Value→H} {W:World} {base:Nat} {r:Reach}
theorem Zhl {v:Value} {d:DataW H} {p:List MemPlace} (hv:Value.okWide Tryz.prog W r base 72 v) (h:DataW.Trod enc Tryz.prog W 0 (fun _=>true) true 72 v d p) :
 ∃ A n c rs,v=.slice A n c∧Recs W A n c rs:=by
 obtain ⟨A,n,c,rfl⟩:=okWide_slice Tryz.underlying72 hv
 obtain ⟨fuel,hf⟩:=h
 have ce:Tryz.prog.cellsOf 39=7:=by kernel_rfl
 have c_int:Tryz.prog.cellsOf 3=1:=by kernel_rfl
 have c_string:Tryz.prog.cellsOf 9=1:=by kernel_rfl
 have c_int64:Tryz.prog.cellsOf 2=1:=by kernel_rfl
 have c_sapi_Loc:Tryz.prog.cellsOf 36=1:=by kernel_rfl
 have c_suint8:Tryz.prog.cellsOf 37=1:=by kernel_rfl
 rcases DataW.trod_slice Tryz.underlying72 hf with ⟨hcs,_⟩ | ⟨ad,len,cap,elems,rest,k,_,hcs,hxd,_,hl,hmx,hlen,hel,_⟩
 ·simp [Value.cells] at hcs
  obtain ⟨rfl,rfl,rfl⟩:=hcs
  exact ⟨none,0,0,[],rfl,⟨rfl,Nat.le_refl _,fun i hi=>absurd hi (Nat.not_lt_zero i)⟩⟩
 ·simp [Value.cells] at hcs
  obtain ⟨rfl,rfl,rfl⟩:=hcs
  have each:∀ i,i < n→∃ q:Rc×Fh,RcIn W q.2.1.1 q.2.1.2.1 q.2.1.2.2 q.2.2.1 q.2.2.2.1 q.2.2.2.2 q.1∧∀ k,k < 7→W.cell? ((ad.add (i*7)).add k)=(rcL q.1 q.2)[k]?:=by
   intro i hi
   have h1:=hel i hi
   have hei:elems[i]?=some elems[i]:=List.getElem?_eq_getElem (by omega)
   rw [ce,hei] at h1
   obtain ⟨cs',h2,h3⟩:=Option.bind_eq_some_iff.1 h1
   obtain ⟨_,hlen',hcell⟩:=World.cells?_some h2
   obtain ⟨ys,k',_,hxa,_,hyl,hf⟩:=DataW.trod_struct Tryz.underlying39 h3
   match ys,hyl,cs',hlen' with
   | [y0,y1,y2,y3,y4,y5,y6],_,[v0,v1,v2,v3,v4,v5,v6],_ =>
     have g0:DataW.trod enc Tryz.prog W 0 (fun _=>true) true k' 3 [v0]=some y0:=by
      have h:=hf 0 { name := "Kind", type:=3,offset:=0,embedded:=false,tag := "", pkgPath := "", byteOffset:=0 } rfl
      dsimp only at h
      rw [c_int] at h
      exact h
     have g1:DataW.trod enc Tryz.prog W 0 (fun _=>true) true k' 9 [v1]=some y1:=by
      have h:=hf 1 { name := "Key", type:=9,offset:=1,embedded:=false,tag := "", pkgPath := "", byteOffset:=8 } rfl
      dsimp only at h
      rw [c_string] at h
      exact h
     have g2:DataW.trod enc Tryz.prog W 0 (fun _=>true) true k' 2 [v2]=some y2:=by
      have h:=hf 2 { name := "Id", type:=2,offset:=2,embedded:=false,tag := "", pkgPath := "", byteOffset:=24 } rfl
      dsimp only at h
      rw [c_int64] at h
      exact h
     have g3:DataW.trod enc Tryz.prog W 0 (fun _=>true) true k' 3 [v3]=some y3:=by
      have h:=hf 3 { name := "No", type:=3,offset:=3,embedded:=false,tag := "", pkgPath := "", byteOffset:=32 } rfl
      dsimp only at h
      rw [c_int] at h
      exact h
     have g4:DataW.trod enc Tryz.prog W 0 (fun _=>true) true k' 3 [v4]=some y4:=by
      have h:=hf 4 { name := "Size", type:=3,offset:=4,embedded:=false,tag := "", pkgPath := "", byteOffset:=40 } rfl
      dsimp only at h
      rw [c_int] at h
      exact h
     have g5:DataW.trod enc Tryz.prog W 0 (fun _=>true) true k' 36 [v5]=some y5:=by
      have h:=hf 5 { name := "Locs", type:=36,offset:=5,embedded:=false,tag := "", pkgPath := "", byteOffset:=48 } rfl
      dsimp only at h
      rw [c_sapi_Loc] at h
      exact h
     have g6:DataW.trod enc Tryz.prog W 0 (fun _=>true) true k' 37 [v6]=some y6:=by
      have h:=hf 6 { name := "B", type:=37,offset:=6,embedded:=false,tag := "", pkgPath := "", byteOffset:=72 } rfl
      dsimp only at h
      rw [c_suint8] at h
      exact h
     obtain ⟨z0,e0,_⟩:=DataW.trod_int Tryz.underlying3 g0
     obtain ⟨z1,e1,_⟩:=DataW.trod_string Tryz.underlying9 g1
     obtain ⟨z2,e2,_⟩:=DataW.trod_int Tryz.underlying2 g2
     obtain ⟨z3,e3,_⟩:=DataW.trod_int Tryz.underlying3 g3
     obtain ⟨z4,e4,_⟩:=DataW.trod_int Tryz.underlying3 g4
     obtain ⟨LA,ln,lc,ls,e5,hL⟩:=Zlm g5
     obtain ⟨BA,bn,bc,bs,e6,hB⟩:=Zw4 g6
     have c0:=hcell 0 (by omega)
     have c1:=hcell 1 (by omega)
     have c2:=hcell 2 (by omega)
     have c3:=hcell 3 (by omega)
     have c4:=hcell 4 (by omega)
     have c5:=hcell 5 (by omega)
     have c6:=hcell 6 (by omega)
     simp at c0 c1 c2 c3 c4 c5 c6 e0 e1 e2 e3 e4
     subst e0 e1 e2 e3 e4 e5 e6
     refine ⟨(⟨z0,z1.data.toList,z2,z3,z4,ls,bs⟩,((LA,ln,lc),(BA,bn,bc))),⟨hL,hB⟩,fun k hk=>?_⟩
     match k,hk with
     | 0,_=>exact c0
     | 1,_=>exact c1
     | 2,_=>exact c2
     | 3,_=>exact c3
     | 4,_=>exact c4
     | 5,_=>exact c5
     | 6,_=>exact c6
  obtain ⟨f,hf⟩:=Go.Deep.choose_lt each
  refine ⟨some ad,n,c,(List.range n).map fun i=>(f i).1,rfl,⟨by simp,hl,fun i hi=>?_⟩⟩
  obtain ⟨h1,h2⟩:=hf i hi
  refine ⟨ad,(f i).1,(f i).2,rfl,?_,by rw [List.getElem?_map,List.getElem?_range hi];rfl,h1,h2⟩
  have:=World.block_lt_of_cell? W _ (h2 0 (by omega):_=some (Value.int .i64 (f i).1.kind))
  rwa [Zj,Zj] at this
end
end Go.Proofs.YtkelafkbmnjpeaaGreat
namespace Go.Proofs.YtkelafkbmnjpeaaGreat
open Go.RowKit
attribute [local irreducible] wpF
end Go.Proofs.YtkelafkbmnjpeaaGreat
namespace Go.Proofs.YtkelafkbmnjpeaaGreat
open Go.RowKit
section
variable {B d:Nat} {w0 w w':World} {out:Nat→Prop} {m:Dk}
end
structure Want (B:Nat) (w0 w:World) (out:Nat→Prop) (A:Option Addr) (n c:Nat) (l:List (Fn×Fh)):Prop where
 len:l.length=n
 own:w.ownsRow B 145 9 (.slice A n c) n (l.flatMap fnE)
 mine:∀ g,(Value.slice A n c).ownBlock=some g→out g
 recs:∀ p∈l,RcIn w0 p.2.1.1 p.2.1.2.1 p.2.1.2.2 p.2.2.1 p.2.2.2.1 p.2.2.2.2 p.1.2.2
section
variable {B:Nat} {w0 w w':World} {out out':Nat→Prop} {A:Option Addr} {n c:Nat} {l:List (Fn×Fh)}
end
theorem Zn {k n:Nat} (h:k < n):n - (intOf (Value.int IntKind.i64 ((k:Int)+1))).toNat < n - (intOf (Value.int IntKind.i64 (k:Int))).toNat:=by
 simp only [intOf]
 omega
end Go.Proofs.YtkelafkbmnjpeaaGreat
