/-
  Texts that the statements lean on, one behind the other.
-/
import Derived.Test.YtkelafkbmnjpeaaGreatMG38
import Derived.Test.YtkelafkbmnjpeaaGreatMG39
import Derived.Test.YtkelafkbmnjpeaaGreatMG09
import Derived.Test.YtkelafkbmnjpeaaGreatMG00
import Derived.LoopTactic
import Derived.IntWalk
import Derived.Lib.Hide
import Derived.WalkLawsBesides
import Derived.Test.YtkelafkbmnjpeaaGreatMG18
import Derived.Test.YtkelafkbmnjpeaaGreatMG36
import Derived.Test.YtkelafkbmnjpeaaGreatMG03
import Derived.Test.YtkelafkbmnjpeaaGreatMG37
import Derived.Test.YtkelafkbmnjpeaaGreatMG21
set_option linter.unusedSimpArgs false
set_option linter.unusedVariables false
set_option maxRecDepth 100000
namespace Go.Proofs.YtkelafkbmnjpeaaGreat
open Go.ChangeShapes Go.WideShapes Go.ChangeAt Go.RowKit
structure O15 where
 what:Int
 x:Rc
 n:Int
 at':Int
 segs:List Int
 bytes:List Int
 bits:Int
structure P15 where
 LA:Option Addr
 ln:Nat
 lc:Nat
 BA:Option Addr
 bn:Nat
 bc:Nat
 SA:Option Addr
 sn:Nat
 sc:Nat
 IA:Option Addr
 im:Nat
 ic:Nat
instance:Inhabited O15:=⟨⟨0,Rc.none,0,0,[],[],0⟩⟩
instance:Inhabited P15:=⟨⟨none,0,0,none,0,0,none,0,0,none,0,0⟩⟩
def o15V (o:O15) (p:P15):List Value:=[.int .i64 o.what,.int .i64 o.x.kind,.string ⟨o.x.key.toArray⟩,.int .i64 o.x.id,.int .i64 o.x.no,.int .i64 o.x.size,.slice p.LA p.ln p.lc,.slice p.BA p.bn p.bc,.int .i64 o.n,.int .i64 o.at',.slice p.SA p.sn p.sc,.slice p.IA p.im p.ic,.int .u32 o.bits]
structure O15At (w:World) (o:O15) (p:P15):Prop where
 what:-9223372036854775808≤o.what∧o.what≤9223372036854775807
 n:-9223372036854775808≤o.n∧o.n≤9223372036854775807
 x:RcIn w p.LA p.ln p.lc p.BA p.bn p.bc o.x
 at':-9223372036854775808≤o.at'∧o.at'≤9223372036854775807
 segs:Ints w p.SA p.sn p.sc o.segs
 eachS:∀ x∈o.segs,-9223372036854775808≤x∧x≤9223372036854775807
 bytes:Ints w p.IA p.im p.ic o.bytes
 each:∀ x∈o.bytes,-9223372036854775808≤x∧x≤9223372036854775807
 bits:0≤o.bits∧o.bits≤4294967295
 small:o.x.key.length≤140737488351232∧o.x.locs.length≤140737488351232∧o.x.b.length≤140737488351232∧o.bytes.length≤140737488351232∧o.segs.length≤140737488351232
structure Ops15 (w:World) (A:Option Addr) (n c:Nat) (os:List O15):Prop where
 len:os.length=n
 cap:n≤c
 top:n≤140737488351232
 spot:∀ i,i < n→∃ (ad:Addr) (o:O15) (p:P15),A=some ad∧ad.block < w.heap.size∧os[i]?=some o∧O15At w o p∧∀ k,k < 13→w.cell? ((ad.add (i*13)).add k)=(o15V o p)[k]?
theorem O15At.grow {w w':World} {o:O15} {p:P15} (h:O15At w o p) (hg:Grows w w'):O15At w' o p:=⟨h.what,h.n,h.x.grow hg,h.at',h.segs.grow hg,h.eachS,h.bytes.grow hg,h.each,h.bits,h.small⟩
theorem Ops15.grow {w w':World} {A:Option Addr} {n c:Nat} {os:List O15} (h:Ops15 w A n c os) (hg:Grows w w'):Ops15 w' A n c os :=
 ⟨h.len,h.cap,h.top,fun i hi=>by
  obtain ⟨ad,o,p,h1,h2,h3,h4,h5⟩:=h.spot i hi
  exact ⟨ad,o,p,h1,Nat.lt_of_lt_of_le h2 hg.size,h3,h4.grow hg,fun k hk=>(hg.cell (by rw [Zk,Zk];exact h2)).trans (h5 k hk)⟩⟩
section
variable {H:Type} {enc:TypeId×Value→H} {W:World} {base:Nat} {r:Reach}
theorem Zkc {m:Nat} {a:Value} {x:DataW H×List MemPlace} (h:DataW.trod enc Tryz.prog W 0 (fun _=>true) true m 40 [a]=some x):∃ A n c xs,a=.slice A n c∧Ints W A n c xs∧(n=0∨c*8∈x.1.weights Tryz.prog 40)∧∀ x∈xs,-9223372036854775808≤x∧x≤9223372036854775807:=by
 rcases open_ints Tryz.underlying40 Tryz.underlying3 (by kernel_rfl) h with ⟨hcs,_⟩ | ⟨x,l,c,zs,hcs,_,hl,hm,hz,hx,hcell,hwz⟩
 ·simp at hcs
  exact ⟨none,0,0,[],hcs,⟨Row.nil _ _ _,Nat.le_refl _,fun _=>rfl⟩,.inl rfl,fun x hx=>by cases hx⟩
 ·simp at hcs
  have hz':zs.length=c:=by simpa using hz
  refine ⟨some x,l,c,zs.take l,hcs,⟨⟨?_,fun k v hk=>?_⟩,hl,(fun h=>by cases h)⟩,.inr ?_,fun y hy=>bounds_i64 (hwz y (List.mem_of_mem_take hy))⟩
  rotate_right 1
  ·rw [hx]
   simp only [DataW.weights,Tryz.underlying40]
   refine List.mem_cons.2 (.inl ?_)
   rw [show Tryz.prog.bytesOf 3=8 by kernel_rfl]
   simp only [lits,List.length_map,List.length_take,List.length_drop]
   congr 1
   omega
  ·rw [List.length_map,List.length_take]
   omega
  ·rw [List.getElem?_map,List.getElem?_take] at hk
   split at hk
   ·rename_i hkn
    have hkz:k < zs.length:=by omega
    rw [List.getElem?_eq_getElem hkz] at hk
    have hcl:=hcell k hkz
    refine ⟨x,rfl,by have:=World.block_lt_of_cell? W _ hcl;rwa [Zk] at this,?_⟩
    simp only [Option.map_some,Option.some.injEq] at hk
    rw [hcl,←hk,iV,List.getD_eq_getElem?_getD,List.getElem?_eq_getElem hkz]
    rfl
   ·cases hk
theorem Zrt {m:Nat} {a:Value} {x:DataW H×List MemPlace} (h:DataW.trod enc Tryz.prog W 0 (fun _=>true) true m 37 [a]=some x):∃ A n c bs,a=.slice A n c∧Sl W A n c bs∧(n=0∨c*1∈x.1.weights Tryz.prog 37):=by
 rcases open_ints Tryz.underlying37 Tryz.underlying5 (by kernel_rfl) h with ⟨hcs,_⟩ | ⟨x,l,c,zs,hcs,_,hl,hm,hz,hx,hcell,hwz⟩
 ·simp at hcs
  exact ⟨none,0,0,[],hcs,Sl.nil _,.inl rfl⟩
 ·simp at hcs
  have hz':zs.length=c:=by simpa using hz
  refine ⟨some x,l,c,(zs.take l).map (fun z=>UInt8.ofNat z.toNat),hcs,⟨⟨?_,?_⟩,hl,fun h=>by cases h⟩,.inr ?_⟩
  rotate_right 1
  ·rw [hx]
   simp only [DataW.weights,Tryz.underlying37]
   refine List.mem_cons.2 (.inl ?_)
   rw [show Tryz.prog.bytesOf 5=1 by kernel_rfl]
   simp only [lits,List.length_map,List.length_take,List.length_drop]
   congr 1
   omega
  ·rw [List.length_map,List.length_map,List.length_take]
   omega
  ·intro k v hk
   rw [List.map_map,List.getElem?_map,List.getElem?_take] at hk
   split at hk
   ·rename_i hkn
    have hkz:k < zs.length:=by omega
    rw [List.getElem?_eq_getElem hkz] at hk
    have hcl:=hcell k hkz
    refine ⟨x,rfl,by have:=World.block_lt_of_cell? W _ hcl;rwa [Zk] at this,?_⟩
    have hw:=Zr9 (hwz zs[k] (List.getElem_mem hkz))
    have hv':v=byteV (UInt8.ofNat zs[k].toNat):=by
     simp only [Option.map_some,Function.comp,Option.some.injEq] at hk
     exact hk.symm
    rw [hcl,hv',byteV,hw,List.getD_eq_getElem?_getD,List.getElem?_eq_getElem hkz]
    rfl
   ·cases hk
theorem Zir {m:Nat} {a:Value} {x:DataW H×List MemPlace} (h:DataW.trod enc Tryz.prog W 0 (fun _=>true) true m 36 [a]=some x) {A:Option Addr} {n c:Nat} (ha:a=.slice A n c):n=0∨∃ k,n≤k∧k*24∈x.1.weights Tryz.prog 36:=by
 subst ha
 rcases DataW.trod_slice Tryz.underlying36 h with ⟨hcs,_⟩ | ⟨ad,len,cap,elems,rest,k,_,hcs,hxd,_,hl,hmx,hlen,hel,_⟩
 ·simp at hcs
  exact .inl hcs.2.1
 ·simp at hcs
  obtain ⟨_,rfl,rfl⟩:=hcs
  refine .inr ⟨elems.length+rest.length,by omega,?_⟩
  rw [hxd]
  simp only [DataW.weights,Tryz.underlying36]
  refine List.mem_cons.2 (.inl ?_)
  rw [show Tryz.prog.bytesOf 140=24 by kernel_rfl]
  simp only [List.length_map]
theorem Zok {v:Value} {d:DataW H} {p:List MemPlace} (hv:Value.okWide Tryz.prog W r base 22 v) (h:DataW.Trod enc Tryz.prog W 0 (fun _=>true) true 22 v d p) {ts:List TypeId} {ds:List (DataW H)} (hsz:(DataW.weightsEach Tryz.prog ts ds).all (·≤reachBytes)=true) {j:Nat}
 (hj:ts[j]?=some 22) (hd:ds[j]?=some d) :
 ∃ A n c os,v=.slice A n c∧Ops15 W A n c os:=by
 obtain ⟨A,n,c,rfl⟩:=okWide_slice Tryz.underlying22 hv
 obtain ⟨fuel,hf⟩:=h
 have ce:Tryz.prog.cellsOf 43=13:=by kernel_rfl
 have c_rec:Tryz.prog.cellsOf 39=7:=by kernel_rfl
 have c_int:Tryz.prog.cellsOf 3=1:=by kernel_rfl
 have c_int64:Tryz.prog.cellsOf 2=1:=by kernel_rfl
 have c_string:Tryz.prog.cellsOf 9=1:=by kernel_rfl
 have c_sloc:Tryz.prog.cellsOf 36=1:=by kernel_rfl
 have c_su8:Tryz.prog.cellsOf 37=1:=by kernel_rfl
 have c_sint:Tryz.prog.cellsOf 40=1:=by kernel_rfl
 have c_uint32:Tryz.prog.cellsOf 41=1:=by kernel_rfl
 rcases DataW.trod_slice Tryz.underlying22 hf with ⟨hcs,_⟩ | ⟨ad,len,cap,elems,rest,k,_,hcs,hxd,_,hl,hmx,hlen,hel,_⟩
 ·simp [Value.cells] at hcs
  obtain ⟨rfl,rfl,rfl⟩:=hcs
  exact ⟨none,0,0,[],rfl,⟨rfl,Nat.le_refl _,by omega,fun i hi=>absurd hi (Nat.not_lt_zero i)⟩⟩
 ·simp [Value.cells] at hcs
  obtain ⟨rfl,rfl,rfl⟩:=hcs
  have hdd:d=.slice (elems.map (·.1)) (rest.map (·.1)):=by
   simp only [Prod.mk.injEq] at hxd
   exact hxd.1
  have wt:∀ z∈d.weights Tryz.prog 22,z≤140737488351232:=fun z hz=>by
   have:=List.all_eq_true.1 hsz _ (DataW.weights_mem_each hj hd _ hz)
   have h2:z≤reachBytes:=by simpa using this
   unfold reachBytes at h2
   omega
  have wtop:n≤140737488351232:=by
   have:=wt ((elems.length+rest.length)*176) (by
    rw [hdd]
    simp only [DataW.weights,Tryz.underlying22]
    refine List.mem_cons.2 (.inl ?_)
    rw [show Tryz.prog.bytesOf 43=176 by kernel_rfl]
    simp only [List.length_map])
   omega
  have wts:∀ (i:Nat) e,elems[i]?=some e→∀ z∈e.1.weights Tryz.prog 43,z≤140737488351232:=fun i e he z hz=>wt z (by
   rw [hdd]
   simp only [DataW.weights,Tryz.underlying22]
   exact List.mem_cons_of_mem _ (List.mem_append_left _ (Zf5 (List.mem_map.2 ⟨e,List.mem_of_getElem? he,rfl⟩) hz)))
  have each:∀ i,i < n→∃ q:O15×P15,O15At W q.1 q.2∧∀ k,k < 13→W.cell? ((ad.add (i*13)).add k)=(o15V q.1 q.2)[k]?:=by
   intro i hi
   have h1:=hel i hi
   have hei:elems[i]?=some elems[i]:=List.getElem?_eq_getElem (by omega)
   have wti:=wts i _ hei
   rw [ce,hei] at h1
   obtain ⟨cs',h2,h3⟩:=Option.bind_eq_some_iff.1 h1
   obtain ⟨_,hlen',hcell⟩:=World.cells?_some h2
   obtain ⟨ys,k',_,hxa,_,hyl,hf⟩:=DataW.trod_struct Tryz.underlying43 h3
   rw [hxa] at wti
   match ys,hyl,cs',hlen',wti with
   | [y0,y1,y2,y3,y4,y5,y6],_,[v0,v1,v2,v3,v4,v5,v6,v7,v8,v9,v10,v11,v12],_,wti =>
     have wti:∀ z∈y0.1.weights Tryz.prog 3++(y1.1.weights Tryz.prog 39++(y2.1.weights Tryz.prog 3++(y3.1.weights Tryz.prog 3++(y4.1.weights Tryz.prog 40++(y5.1.weights Tryz.prog 40++(y6.1.weights Tryz.prog 41++[])))))),z≤140737488351232:=fun z hz=>wti z (by
      simp only [DataW.weights,Tryz.underlying43,List.map_cons,List.map_nil,DataW.weightsEach]
      exact hz)
     have g0:DataW.trod enc Tryz.prog W 0 (fun _=>true) true k' 3 [v0]=some y0:=by
      have h:=hf 0 { name := "What", type:=3,offset:=0,embedded:=false,tag := "", pkgPath := "", byteOffset:=0 } rfl
      dsimp only at h
      rw [c_int] at h
      exact h
     have g1:DataW.trod enc Tryz.prog W 0 (fun _=>true) true k' 39 [v1,v2,v3,v4,v5,v6,v7]=some y1:=by
      have h:=hf 1 { name := "X", type:=39,offset:=1,embedded:=false,tag := "", pkgPath := "", byteOffset:=8 } rfl
      dsimp only at h
      rw [c_rec] at h
      exact h
     have g2:DataW.trod enc Tryz.prog W 0 (fun _=>true) true k' 3 [v8]=some y2:=by
      have h:=hf 2 { name := "N", type:=3,offset:=8,embedded:=false,tag := "", pkgPath := "", byteOffset:=104 } rfl
      dsimp only at h
      rw [c_int] at h
      exact h
     have g3:DataW.trod enc Tryz.prog W 0 (fun _=>true) true k' 3 [v9]=some y3:=by
      have h:=hf 3 { name := "At", type:=3,offset:=9,embedded:=false,tag := "", pkgPath := "", byteOffset:=112 } rfl
      dsimp only at h
      rw [c_int] at h
      exact h
     have g4:DataW.trod enc Tryz.prog W 0 (fun _=>true) true k' 40 [v10]=some y4:=by
      have h:=hf 4 { name := "Segs", type:=40,offset:=10,embedded:=false,tag := "", pkgPath := "", byteOffset:=120 } rfl
      dsimp only at h
      rw [c_sint] at h
      exact h
     have g5:DataW.trod enc Tryz.prog W 0 (fun _=>true) true k' 40 [v11]=some y5:=by
      have h:=hf 5 { name := "Bytes", type:=40,offset:=11,embedded:=false,tag := "", pkgPath := "", byteOffset:=144 } rfl
      dsimp only at h
      rw [c_sint] at h
      exact h
     have g6:DataW.trod enc Tryz.prog W 0 (fun _=>true) true k' 41 [v12]=some y6:=by
      have h:=hf 6 { name := "Bits", type:=41,offset:=12,embedded:=false,tag := "", pkgPath := "", byteOffset:=168 } rfl
      dsimp only at h
      rw [c_uint32] at h
      exact h
     obtain ⟨ws,k2,_,hwa,_,hwl,hg⟩:=DataW.trod_struct Tryz.underlying39 g1
     match ws,hwl,hwa with
     | [u0,u1,u2,u3,u4,u5,u6],_,hwa =>
       have wtm:∀ z∈u0.1.weights Tryz.prog 3++(u1.1.weights Tryz.prog 9++(u2.1.weights Tryz.prog 2++(u3.1.weights Tryz.prog 3++(u4.1.weights Tryz.prog 3++(u5.1.weights Tryz.prog 36++(u6.1.weights Tryz.prog 37++[])))))),z≤140737488351232:=fun z hz=>wti z (List.mem_append_right _ (List.mem_append_left _ (by
        rw [hwa]
        simp only [DataW.weights,Tryz.underlying39,List.map_cons,List.map_nil,DataW.weightsEach]
        exact hz)))
       have j0:DataW.trod enc Tryz.prog W 0 (fun _=>true) true k2 3 [v1]=some u0:=by
        have h:=hg 0 { name := "Kind", type:=3,offset:=0,embedded:=false,tag := "", pkgPath := "", byteOffset:=0 } rfl
        dsimp only at h
        rw [c_int] at h
        exact h
       have j1:DataW.trod enc Tryz.prog W 0 (fun _=>true) true k2 9 [v2]=some u1:=by
        have h:=hg 1 { name := "Key", type:=9,offset:=1,embedded:=false,tag := "", pkgPath := "", byteOffset:=8 } rfl
        dsimp only at h
        rw [c_string] at h
        exact h
       have j2:DataW.trod enc Tryz.prog W 0 (fun _=>true) true k2 2 [v3]=some u2:=by
        have h:=hg 2 { name := "Id", type:=2,offset:=2,embedded:=false,tag := "", pkgPath := "", byteOffset:=24 } rfl
        dsimp only at h
        rw [c_int64] at h
        exact h
       have j3:DataW.trod enc Tryz.prog W 0 (fun _=>true) true k2 3 [v4]=some u3:=by
        have h:=hg 3 { name := "No", type:=3,offset:=3,embedded:=false,tag := "", pkgPath := "", byteOffset:=32 } rfl
        dsimp only at h
        rw [c_int] at h
        exact h
       have j4:DataW.trod enc Tryz.prog W 0 (fun _=>true) true k2 3 [v5]=some u4:=by
        have h:=hg 4 { name := "Size", type:=3,offset:=4,embedded:=false,tag := "", pkgPath := "", byteOffset:=40 } rfl
        dsimp only at h
        rw [c_int] at h
        exact h
       have j5:DataW.trod enc Tryz.prog W 0 (fun _=>true) true k2 36 [v6]=some u5:=by
        have h:=hg 5 { name := "Locs", type:=36,offset:=5,embedded:=false,tag := "", pkgPath := "", byteOffset:=48 } rfl
        dsimp only at h
        rw [c_sloc] at h
        exact h
       have j6:DataW.trod enc Tryz.prog W 0 (fun _=>true) true k2 37 [v7]=some u6:=by
        have h:=hg 6 { name := "B", type:=37,offset:=6,embedded:=false,tag := "", pkgPath := "", byteOffset:=72 } rfl
        dsimp only at h
        rw [c_su8] at h
        exact h
       obtain ⟨z0,e0,_,b0⟩:=DataW.trod_int Tryz.underlying3 g0
       obtain ⟨z2,e2,_⟩:=DataW.trod_int Tryz.underlying3 j0
       obtain ⟨z3,e3,hw3,_⟩:=DataW.trod_string Tryz.underlying9 j1
       obtain ⟨z4,e4,_⟩:=DataW.trod_int Tryz.underlying2 j2
       obtain ⟨z5,e5,_⟩:=DataW.trod_int Tryz.underlying3 j3
       obtain ⟨z6,e6,_⟩:=DataW.trod_int Tryz.underlying3 j4
       obtain ⟨LA,ln,lc,ls,e7,hL⟩:=Zrq j5
       have hLw:=Zir j5 e7
       obtain ⟨BA,bn,bc,bs,e8,hB,hBw⟩:=Zrt j6
       obtain ⟨z1,e1,_,b1⟩:=DataW.trod_int Tryz.underlying3 g2
       obtain ⟨z9,e9,_,b9⟩:=DataW.trod_int Tryz.underlying3 g3
       obtain ⟨SA,sn,sc,ss,e12,hS,hSw,hSb⟩:=Zkc g4
       obtain ⟨IA,im,ic,is,e10,hI,hIw,hIb⟩:=Zkc g5
       obtain ⟨z11,e11,_,b11⟩:=DataW.trod_int Tryz.underlying41 g6
       have c0:=hcell 0 (by omega)
       have c1:=hcell 1 (by omega)
       have c2:=hcell 2 (by omega)
       have c3:=hcell 3 (by omega)
       have c4:=hcell 4 (by omega)
       have c5:=hcell 5 (by omega)
       have c6:=hcell 6 (by omega)
       have c7:=hcell 7 (by omega)
       have c8:=hcell 8 (by omega)
       have c9:=hcell 9 (by omega)
       have c10:=hcell 10 (by omega)
       have c11:=hcell 11 (by omega)
       have c12:=hcell 12 (by omega)
       simp at c0 c1 c2 c3 c4 c5 c6 c7 c8 c9 c10 c11 c12 e0 e1 e2 e3 e4 e5 e6 e9 e11
       subst e0 e1 e2 e3 e4 e5 e6 e7 e8 e9 e10 e11 e12
       refine ⟨(⟨z0,⟨z2,z3.data.toList,z4,z5,z6,ls,bs⟩,z1,z9,ss,is,z11⟩,⟨LA,ln,lc,BA,bn,bc,SA,sn,sc,IA,im,ic⟩),⟨bounds_i64 b0,bounds_i64 b1,⟨hL,hB⟩,bounds_i64 b9,hS,hSb,hI,hIb,bounds_u32 b11,⟨?_,?_,?_,?_,?_⟩⟩,fun k hk=>?_⟩
       ·show z3.data.toList.length≤_
        refine wtm _ (List.mem_append_right _ (List.mem_append_left _ ?_))
        rw [hw3]
        simp only [DataW.weights,List.mem_singleton]
       ·have hlen:=hL.len
        show ls.length≤_
        rcases hLw with h | ⟨q,hq,h⟩
        ·omega
        ·have:=wtm _ (List.mem_append_right _ (List.mem_append_right _ (List.mem_append_right _ (List.mem_append_right _ (List.mem_append_right _ (List.mem_append_left _ h))))))
         omega
       ·have hlen:=hB.len
        have hcap:=hB.cap
        show bs.length≤_
        rcases hBw with h | h
        ·omega
        ·have:=wtm _ (List.mem_append_right _ (List.mem_append_right _ (List.mem_append_right _ (List.mem_append_right _ (List.mem_append_right _ (List.mem_append_right _ (List.mem_append_left _ h)))))))
         omega
       ·have hlen:=hI.len
        have hcap:=hI.cap
        show is.length≤_
        rcases hIw with h | h
        ·omega
        ·have:=wti _ (List.mem_append_right _ (List.mem_append_right _ (List.mem_append_right _ (List.mem_append_right _ (List.mem_append_right _ (List.mem_append_left _ h))))))
         omega
       ·have hlen:=hS.len
        have hcap:=hS.cap
        show ss.length≤_
        rcases hSw with h | h
        ·omega
        ·have:=wti _ (List.mem_append_right _ (List.mem_append_right _ (List.mem_append_right _ (List.mem_append_right _ (List.mem_append_left _ h)))))
         omega
       ·match k,hk with
        | 0,_=>exact c0
        | 1,_=>exact c1
        | 2,_=>exact c2
        | 3,_=>exact c3
        | 4,_=>exact c4
        | 5,_=>exact c5
        | 6,_=>exact c6
        | 7,_=>exact c7
        | 8,_=>exact c8
        | 9,_=>exact c9
        | 10,_=>exact c10
        | 11,_=>exact c11
        | 12,_=>exact c12
  obtain ⟨f,hf⟩:=Go.Deep.choose_lt each
  refine ⟨some ad,n,c,(List.range n).map fun i=>(f i).1,rfl,⟨by simp,hl,wtop,fun i hi=>?_⟩⟩
  obtain ⟨h1,h2⟩:=hf i hi
  refine ⟨ad,(f i).1,(f i).2,rfl,?_,by rw [List.getElem?_map,List.getElem?_range hi];rfl,h1,h2⟩
  have:=World.block_lt_of_cell? W _ (h2 0 (by omega):_=some (Value.int .i64 (f i).1.what))
  rwa [Zk,Zk] at this
end
end Go.Proofs.YtkelafkbmnjpeaaGreat
set_option maxHeartbeats 8000000
set_option maxRecDepth 100000
namespace Go.Proofs.YtkelafkbmnjpeaaGreat
open Go.Lib (hid)
open Go.RowKit
theorem Zhi (a b s:Nat) (h:a+b=s) (hs:s≤9000000000000000000):IntKind.i64.wrap ((a:Int)+(b:Int))=(s:Int):=by
 rw [IntWalk.i64_in _ (by omega)];omega
theorem Zb3 (a:Addr) (k:Nat):a.add (k+1)={ block:=a.block,off:=a.off+(k+1) }:=Addr.add_succ' a k
theorem Zoh {k n:Nat} (h:k < n):n - (intOf (Value.int IntKind.i64 ((k:Int)+1))).toNat < n - (intOf (Value.int IntKind.i64 (k:Int))).toNat:=by
 simp only [intOf]
 omega
theorem Zmw (t q:Nat) (h:min t 20000=q):(if (20000:Int) < (t:Int) then (20000:Int) else (t:Int))=(q:Int):=by split <;> omega
def Zdi (o:O15):Nat:=o.x.b.length+o.x.key.length+10*o.x.locs.length+o.bytes.length+o.segs.length
def Zbi (os:List O15):Nat:=(os.map fun o=>min (Zdi o) 20000).sum
def Zb4 (os:List O15):Nat:=(os.map Zdi).sum
theorem Zoi {os:List O15} {i:Nat} {o:O15} (h:os[i]?=some o):Zbi (os.take (i+1))=Zbi (os.take i)+min (Zdi o) 20000:=by
 unfold Zbi
 rw [List.take_add_one,h,List.map_append,List.sum_append]
 simp
theorem Zoj {os:List O15} {i:Nat} {o:O15} (h:os[i]?=some o):Zb4 (os.take (i+1))=Zb4 (os.take i)+Zdi o:=by
 unfold Zb4
 rw [List.take_add_one,h,List.map_append,List.sum_append]
 simp
theorem Zlv (os:List O15) (i:Nat):Zb4 (os.take i)≤Zb4 os:=by
 unfold Zb4
 conv=>rhs;rw [←List.take_append_drop i os,List.map_append,List.sum_append]
 omega
theorem o15min_small:∀ {os:List O15},Zbi os < 20000→Zb4 os=Zbi os
 | [],_=>rfl
 | o :: os,h=>by
   unfold Zbi at h
   rw [List.map_cons,List.sum_cons] at h
   have h2:Zbi os < 20000:=by unfold Zbi;omega
   have:=o15min_small h2
   unfold Zb4 Zbi at *
   rw [List.map_cons,List.sum_cons,List.map_cons,List.sum_cons,this]
   omega
theorem Zlw (A:Option Addr) (n c:Nat) (os:List O15) (w:World) (hx:Ops15 w A n c os) :
 Calls Tryz.prog 12 #[.slice A n c] w fun e w'=>(e=.returned (.bool true)∧Grows w w')∨(e=.returned (.bool false)∧n≤100∧n+Zb4 os < 20000∧Grows w w'):=by
 have HX:=hid hx
 have HLEN:=hid hx.len
 have hnc:=hx.cap
 have htop:=hx.top
 clear hx
 go_enter Tryz.func12,Tryz.ntmps12
 go_wp2_with (fail)
 by_cases hbig:20000≤n
 ·have hb1:¬ n < 20000:=by omega
  have hb2:¬ (n:Int) < 20000:=by omega
  have hb3:(20000:Int)≤(n:Int):=by omega
  go_loopw [3,4] (fun vn vi wr=>vn=.int .i64 (n:Nat)∧vi=.int .i64 0∧w=wr) (fun _ _ _=>0)
  case atStart=>exact ⟨rfl,rfl,rfl⟩
  case round =>
   obtain ⟨rfl,rfl,rfl⟩:=hrel
   have h0:(0:Int) < (n:Int):=by omega
   have h0':0 < n:=by omega
   go_wp2_with (fail)
   go_ret
   exact .inl ⟨rfl,Grows.refl _⟩
 ·go_loopw [3,4] (fun vn vi wr=>∃ k acc:Nat,k≤n∧acc≤40000∧vn=.int .i64 (acc:Nat)∧vi=.int .i64 (k:Nat)∧Hid (acc=n+Zbi (os.take k))∧Hid (Grows w wr)) (fun _ i _=>n - (intOf i).toNat)
  case atStart=>exact ⟨0,n,Nat.zero_le _,by omega,rfl,rfl,hid (by simp [Zbi]),hid (Grows.refl _)⟩
  case round =>
   obtain ⟨k,acc,hk,hacc,rfl,rfl,HACC,HG⟩:=hrel
   by_cases hlt:k < n
   ·by_cases hac:acc < 20000
    ·obtain ⟨ad,o,p,rfl,hblk,hoi,hat,hcs⟩:=HX.out.spot k hlt
     have k0:(0:Int)≤(k:Int):=by omega
     have k1:(k:Int) < (n:Int):=by omega
     have ka:(acc:Int) < 20000:=by omega
     have ii:IntKind.i64.wrap ((k:Int)+1)=(k:Int)+1:=Zhi k 1 (k+1) rfl (by omega)
     obtain ⟨s1,hs1⟩:∃ s:ByteArray,(⟨o.x.key.toArray⟩:ByteArray)=s:=⟨_,rfl⟩
     obtain ⟨x1,hx1⟩:∃ x,s1.size=x:=⟨_,rfl⟩
     have hn1:x1=o.x.key.length:=by rw [←hx1,←hs1];simp [ByteArray.size]
     have hlb:=hat.x.sl.len
     have hll:=hat.x.locs.len
     have hli:=hat.bytes.len
     have hls:=hat.segs.len
     have hsm:=hat.small
     have c3:∀ w',Grows wr w'→w'.cell? { block:=(ad.add (k*13)).block,off:=(ad.add (k*13)).off+2 }=some (.string s1):=fun w' hg=>by
      have:=hcs 2 (by omega)
      rw [Zb3] at this
      rw [(Grows.trans HG.out hg).cell (by rw [Zk];exact hblk),this,←hs1]
      rfl
     have c7:∀ w',Grows wr w'→w'.cell? { block:=(ad.add (k*13)).block,off:=(ad.add (k*13)).off+6 }=some (.slice p.LA p.ln p.lc):=fun w' hg=>by
      have:=hcs 6 (by omega)
      rw [Zb3] at this
      rw [(Grows.trans HG.out hg).cell (by rw [Zk];exact hblk),this]
      rfl
     have c8:∀ w',Grows wr w'→w'.cell? { block:=(ad.add (k*13)).block,off:=(ad.add (k*13)).off+7 }=some (.slice p.BA p.bn p.bc):=fun w' hg=>by
      have:=hcs 7 (by omega)
      rw [Zb3] at this
      rw [(Grows.trans HG.out hg).cell (by rw [Zk];exact hblk),this]
      rfl
     have c10:∀ w',Grows wr w'→w'.cell? { block:=(ad.add (k*13)).block,off:=(ad.add (k*13)).off+11 }=some (.slice p.IA p.im p.ic):=fun w' hg=>by
      have:=hcs 11 (by omega)
      rw [Zb3] at this
      rw [(Grows.trans HG.out hg).cell (by rw [Zk];exact hblk),this]
      rfl
     have c12:∀ w',Grows wr w'→w'.cell? { block:=(ad.add (k*13)).block,off:=(ad.add (k*13)).off+10 }=some (.slice p.SA p.sn p.sc):=fun w' hg=>by
      have:=hcs 10 (by omega)
      rw [Zb3] at this
      rw [(Grows.trans HG.out hg).cell (by rw [Zk];exact hblk),this]
      rfl
     have HCF:=hid (fun w' hg=>And.intro (c3 w' hg) (And.intro (c7 w' hg) (And.intro (c8 w' hg) (And.intro (c10 w' hg) (c12 w' hg)))))
     obtain ⟨t1,ht1⟩:∃ t,p.bn+x1=t:=⟨_,rfl⟩
     obtain ⟨tm,htm⟩:∃ t,10*p.ln=t:=⟨_,rfl⟩
     obtain ⟨t2,ht2⟩:∃ t,t1+tm=t:=⟨_,rfl⟩
     obtain ⟨u3,hu3⟩:∃ t,t2+p.im=t:=⟨_,rfl⟩
     obtain ⟨t3,ht3⟩:∃ t,u3+p.sn=t:=⟨_,rfl⟩
     have w1:=Zhi _ _ _ ht1 (by omega)
     have wm:IntKind.i64.wrap (10*(p.ln:Int))=(tm:Int):=by rw [IntWalk.i64_in _ (by omega)];omega
     have w2:=Zhi _ _ _ ht2 (by omega)
     have wu:=Zhi _ _ _ hu3 (by omega)
     have w3:=Zhi _ _ _ ht3 (by omega)
     have ht:Zdi o=t3:=by unfold Zdi;omega
     have HT:=hid (And.intro ht hoi)
     obtain ⟨bn,hbn⟩:∃ x,p.bn=x:=⟨_,rfl⟩
     obtain ⟨im,him⟩:∃ x,p.im=x:=⟨_,rfl⟩
     obtain ⟨ln,hln⟩:∃ x,p.ln=x:=⟨_,rfl⟩
     obtain ⟨sn,hsn⟩:∃ x,p.sn=x:=⟨_,rfl⟩
     have HPQ:=hid (And.intro hbn (And.intro him (And.intro hln hsn)))
     rw [hbn] at w1
     rw [him] at wu
     rw [hsn] at w3
     rw [hln] at wm
     have hmn:min t3 20000≤20000:=by omega
     obtain ⟨q,hq⟩:∃ q,min t3 20000=q:=⟨_,rfl⟩
     have w4:=Zhi acc q (acc+q) rfl (by omega)
     have HVAL:=hid (show acc+q=n+Zbi (os.take (k+1)) by rw [Zoi HT.out.2,HT.out.1,hq];have:=HACC.out;omega)
     have HLQ:=hid (show acc+q≤40000 by omega)
     have HW:=hid (And.intro w1 (And.intro wm (And.intro w2 (And.intro wu (And.intro w3 w4)))))
     clear hlb hll hli hls hsm ht hoi hat hcs c3 c7 c8 c10 c12 hn1 ht1 ht2 hu3 ht3 htm hbn him hln hsn hmn hs1
     have hlen1:s1.size=x1:=hx1
     go_wp2_with (fail)
     refine Yc (by kernel_rfl) (by kernel_rfl) ?_
     iterate 42 (refine q_op' (v:=?_) (a':=?_) (by rfl) ?_ ?_ ?_
                 rotate_left 2
                 ·intro w' hC
                  obtain ⟨z1,z2,z3,z5,z6⟩:=HCF.out w' hC
                  first
                   | (go_simp;done)
                   | (go_simp;with_reducible rfl)
                 ·simp only [Pu]
                  try rfl)
     refine wpQuiet_nil ?_
     intro w5 hC
     have HG5:=hid (Grows.trans HG.out hC)
     clear hC HCF HG
     go_wp2_with (fail)
     refine ⟨⟨k+1,acc+q,hlt,HLQ.out,?_,rfl,HVAL,HG5⟩,Zoh hlt⟩
     obtain ⟨w1,wm,w2,wu,w3,w4⟩:=HW.out
     have hmn:min (t3:Int) 20000=(q:Int):=by
      have hz:=Zmw t3 q hq
      split at hz <;> omega
     first
     | rw [HPQ.out.1,HPQ.out.2.1,HPQ.out.2.2.1,HPQ.out.2.2.2,w1,wm,w2,wu,w3,Zmw t3 q hq,w4]
     | rw [HPQ.out.1,HPQ.out.2.1,HPQ.out.2.2.1,HPQ.out.2.2.2,w1,wm,w2,wu,w3,hmn,w4]
    ·have ka:¬ (acc:Int) < 20000:=by omega
     have kb:(20000:Int)≤(acc:Int):=by omega
     have k1:(k:Int) < (n:Int):=by omega
     go_wp2_with (fail)
     go_ret
     exact .inl ⟨rfl,HG.out⟩
   ·obtain rfl:k=n:=by omega
    by_cases h2:20000≤acc
    ·have h3:(20000:Int)≤(acc:Int):=by omega
     go_wp2_with (fail)
     go_ret
     exact .inl ⟨rfl,HG.out⟩
    ·have h3:¬ (20000:Int)≤(acc:Int):=by omega
     by_cases h5:100 < k
     ·have h6:(100:Int) < (k:Int):=by omega
      go_wp2_with (fail)
      go_ret
      exact .inl ⟨rfl,HG.out⟩
     ·have h6:¬ (100:Int) < (k:Int):=by omega
      have HFIN:=hid (show k≤100∧k+Zb4 os < 20000 by
       have h1:=HACC.out
       rw [List.take_of_length_le (by rw [HLEN.out];exact Nat.le_refl _)] at h1
       rw [o15min_small (by omega)]
       omega)
      go_wp2_with (fail)
      go_ret
      exact .inr ⟨rfl,HFIN.out.1,HFIN.out.2,HG.out⟩
end Go.Proofs.YtkelafkbmnjpeaaGreat
namespace Go.Proofs.YtkelafkbmnjpeaaGreat
open Go.RowKit
attribute [local irreducible] wpF
end Go.Proofs.YtkelafkbmnjpeaaGreat
namespace Go.Proofs.YtkelafkbmnjpeaaGreat
open Go.RowKit
section
variable {B d:Nat} {w0 w w':World} {out:Nat→Prop} {m:Dk}
end
structure Want (B:Nat) (w0 w:World) (out:Nat→Prop) (A:Option Addr) (n c:Nat) (l:List (Fn×Fh)):Prop where
 len:l.length=n
 own:w.ownsRow B 145 9 (.slice A n c) n (l.flatMap fnE)
 mine:∀ g,(Value.slice A n c).ownBlock=some g→out g
 recs:∀ p∈l,RcIn w0 p.2.1.1 p.2.1.2.1 p.2.1.2.2 p.2.2.1 p.2.2.2.1 p.2.2.2.2 p.1.2.2
section
variable {B:Nat} {w0 w w':World} {out out':Nat→Prop} {A:Option Addr} {n c:Nat} {l:List (Fn×Fh)}
end
theorem Yf {k n:Nat} (h:k < n):n - (intOf (Value.int IntKind.i64 ((k:Int)+1))).toNat < n - (intOf (Value.int IntKind.i64 (k:Int))).toNat:=by
 simp only [intOf]
 omega
theorem Zru {r:Rc} (h:Zq r):r.locs.length≤1000000:=by
 rcases h with h | h | h | h
 ·have:=h.2;unfold Jm at this;simp_all
 ·have h1:=Zqb (r:=r) (.inr (.inl h))
  rw [if_pos h.1] at h1
  have h2:=Zfk r
  omega
 ·have h1:r.locs.length=0:=h.2.1.2.2.2
  omega
 ·have h1:r.locs.length=0:=h.2.1.2.2.2
  omega
end Go.Proofs.YtkelafkbmnjpeaaGreat
