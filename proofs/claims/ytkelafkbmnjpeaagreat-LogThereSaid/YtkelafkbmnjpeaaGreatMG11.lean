/-
  Texts that the statements lean on, one behind the other.
-/
import Derived.Test.YtkelafkbmnjpeaaGreatMG10
import Derived.Laws.BitsAllLaws
import Derived.Test.YtkelafkbmnjpeaaGreatMG01
import Derived.Lib.AppendStr
import Derived.Lib.LazyBuf
set_option linter.unusedSimpArgs false
set_option linter.unusedVariables false
set_option maxHeartbeats 4000000
set_option maxRecDepth 100000
namespace Go.Proofs.YtkelafkbmnjpeaaGreat
open Go.RowKit

theorem Ze6 (bs:List UInt8) (j:Nat) (h:j < bs.length):valB (bs.take (j+1))=256*valB (bs.take j)+((bs.getD j 0).toNat:Int):=by
 rw [List.take_succ_eq_append_getElem h,Zpe]
 simp [h]
theorem Znk (a b:Nat) (ha:a < 9223372036854775808) (hb:b < 9223372036854775808):bits .or .i64 (a:Int) (b:Int)=((a ||| b:Nat):Int):=by
 have hx:a ||| b < 2 ^ 63:=Nat.or_lt_two_pow (by omega) (by omega)
 show IntKind.i64.wrap ((BitVec.ofInt 64 (a:Int) ||| BitVec.ofInt 64 (b:Int)).toNat:Int)=_
 rw [BitVec.toNat_or,ofInt_u64 a (by omega),ofInt_u64 b (by omega),IntKind.wrap_i64]
 omega
theorem Zkt (v:Int) (b:Nat) (h0:0≤v) (h1:v < 1099511627776) (hb:b < 256):bits BinOp.or IntKind.i64 (v*256) (b:Int)=v*256+(b:Int):=by
 obtain ⟨n,rfl⟩:∃ n:Nat,v=(n:Int):=⟨v.toNat,by omega⟩
 have e:=Znk (n*256) b (by omega) (by omega)
 have e2:(n*256 ||| b)=n*256+b:=by
  have:=Nat.two_pow_add_eq_or_of_lt (i:=8) (b:=b) (by omega) n
  rw [show (2:Nat) ^ 8*n=n*256 by omega] at this
  omega
 rw [e2] at e
 rw [show (n:Int)*256=((n*256:Nat):Int) by omega,e]
 omega
theorem Y7 (bs:List UInt8) (h:bs.length≤6):0≤valB bs∧valB bs < 281474976710656:=by
 have:=Zam bs
 obtain e | e | e | e | e | e | e:bs.length=0∨bs.length=1∨bs.length=2∨bs.length=3∨bs.length=4∨bs.length=5∨bs.length=6:=by omega
 all_goals
  rw [e] at this
  simp at this
  omega

theorem Za3 (g:Nat) (s:Src) (k:Nat) (w:World) (h:At w g s) (hk:k≤6) (hs:s.1.length≤140737488351232) :
 Calls Tryz.prog 275 #[.pointer (some ⟨g,0,none⟩),.int .i64 (k:Int)] w fun e w'=>e=.returned (.int .i64 (numS s k).1)∧At w' g (numS s k).2∧Turns g w w':=by
 have hlk:(takeS s k).1.length≤6:=by
  unfold takeS
  split
  ·simp
  ·simp;omega
 unfold numS
 dsimp only
 have HT:=Lib.hid (Zhz g s k w h (by omega) hs)
 generalize takeS s k=r at *
 obtain ⟨bs,s'⟩:=r
 dsimp only at *
 go_enter Tryz.func275,Tryz.ntmps275
 go_wp2_with (fail)
 refine HT.out.mono ?_
 rintro e w1 ⟨A,m,c,rfl,hl,ha,ht⟩
 have hlen:=Bytes.len hl.bytes
 have HL:=Lib.hid hl
 have HA:=Lib.hid (And.intro ha ht)
 clear hl ha ht HT h
 go_wp2_with (fail)
 go_loop [5,12] (fun n i=>∃ j:Nat,j≤m∧i=.int .i64 (j:Nat)∧n=.int .i64 (valB (bs.take j))) (fun _ i=>m - (intOf i).toNat)
 case atStart=>exact ⟨0,by omega,rfl,rfl⟩
 case round =>
  obtain ⟨j,hj,rfl,rfl⟩:=hrel
  by_cases hlt:j < m
  ·obtain ⟨ad,rfl,_,hc⟩:=HL.out.bytes.spot hlt
   have hnx:=Ze6 bs j (by omega)
   have hsm:=Y7 (bs.take j) (by rw [List.length_take];omega)
   have hsm2:=Y7 (bs.take (j+1)) (by rw [List.length_take];omega)
   have hb:=(bs.getD j 0).toNat_lt
   generalize bs.getD j 0=b at *
   generalize valB (bs.take j)=v at *
   have HX:=Lib.hid hnx
   have k0:(0:Int)≤(j:Int):=by omega
   have k1:(j:Int) < (m:Int):=by omega
   clear hnx
   go_wp2_with (fail)
   go_round
   case rel=>exact ⟨j+1,by omega,by go_num,by rw [HX.out,Zkt v _ (by omega) (by have:=hsm2;rw [HX.out] at this;omega) hb];congr 1;omega⟩
   case measure=>simp [intOf];omega
  ·obtain rfl:j=m:=by omega
   have e1:bs.take j=bs:=List.take_of_length_le (by omega)
   rw [e1]
   go_wp2_with (fail)
   go_ret
   exact ⟨rfl,HA.out⟩
end Go.Proofs.YtkelafkbmnjpeaaGreat

namespace Go.Proofs.YtkelafkbmnjpeaaGreat
open Go.RowKit

def IsSl (t:TypeId):Prop:=Tryz.prog.underlying t=some (.slice 5)
theorem Ze7 {t u:TypeId} (ht:IsSl t) (hu:IsSl u) (ty:TypeId) (A:Option Addr) (n c:Nat) (x:Value) (w:World):(Builtin.append_ #[t,u] ty #[.slice A n c,x]).run Tryz.prog w=(Builtin.append_ #[37,37] ty #[.slice A n c,x]).run Tryz.prog w:=by
 have h1:IsSl 37:=Tryz.underlying37
 unfold IsSl at *
 unfold Builtin.append_
 simp [run_underlying ht,run_underlying hu,run_underlying h1]

def Stay (w w':World):Prop:=∀ (g t:Nat) (cs:Array Value),t≠5→Whole w g t cs→Whole w' g t cs
theorem Stay.refl (w:World):Stay w w:=fun _ _ _ _ h=>h
theorem Stay.trans {a b c:World} (h:Stay a b) (k:Stay b c):Stay a c:=fun g t cs ht hw=>k g t cs ht (h g t cs ht hw)
theorem Stay.grow {w w':World} (h:Grows w w'):Stay w w':=fun _ _ _ _ hw=>h.whole hw
theorem Stay.grown {w w':World} {base:Nat} {v:Value} {n:Nat} {xs:List Value} (ho:w.ownsRow base 5 1 v n xs) (hg:w.grownBy w' v.ownBlock):Stay w w':=fun g t cs ht hw=>by
 unfold Whole
 rw [hg.block g hw.lt (fun e=>?_)]
 ·exact hw
 ·rcases ho.2 with ⟨rfl,_⟩ | ⟨g',cap,cur,rfl,_,hh,_⟩
  ·simp [Value.ownBlock] at e
  ·obtain rfl:g=g':=by simpa [Value.ownBlock] using e
   unfold Whole at hw
   rw [hw] at hh
   injection hh with hh
   injection hh with _ h2 _
   exact ht h2

theorem Zc5 {w:World} {ty base:Nat} {A0:Option Addr} {n c0:Nat} {xs:List UInt8} (hown:w.ownsRow base 5 1 (.slice A0 n c0) n (xs.map byteV))
 {A:Option Addr} {m c:Nat} {ys:List UInt8} (hr:Sl w A m c ys) (hk2:n+m≤140737488351232) (hbase:base≤w.heap.size) :
 ∃ A' c' w',(Builtin.append_ #[37,37] ty #[.slice A0 n c0,.slice A m c]).run Tryz.prog w=.ok (.slice A' (n+m) c') w'∧w'.ownsRow base 5 1 (.slice A' (n+m) c') (n+m) ((xs++ys).map byteV)∧Below base w w'∧Stay w w':=by
 obtain ⟨i0,hi,hz0,hz1,hz2⟩:=info_parts infoU8
 obtain ⟨v',w',hrun,h2,h3,_⟩:=Jb (P:=Tryz.prog) (ty:=ty) Tryz.underlying37 hi hz0 hz1 hz2 rfl hown hr.bytes hr.bare (Y2 ys) (by unfold maxLen;omega) (by omega) hbase
 obtain ⟨A',c',rfl,_⟩:=Zp h2
 rw [←List.map_append] at h2
 exact ⟨A',c',w',hrun,h2,(Below.refl _ w).grown h3 hbase (fun g hg=>(hown.lt g hg).1),Stay.grown hown h3⟩
theorem Zpq (ks:List UInt8):Lib.strCells ⟨ks.toArray⟩=ks.map byteV:=by
 simp only [Lib.strCells]
 rfl
theorem Zf6 {w:World} {ty base:Nat} {A0:Option Addr} {n c0:Nat} {xs:List UInt8} (hown:w.ownsRow base 5 1 (.slice A0 n c0) n (xs.map byteV))
 (ks:List UInt8) (hk2:n+ks.length≤140737488351232) (hbase:base≤w.heap.size) :
 ∃ A' c' w',(Builtin.append_ #[37,9] ty #[.slice A0 n c0,.string ⟨ks.toArray⟩]).run Tryz.prog w=.ok (.slice A' (n+ks.length) c') w'∧w'.ownsRow base 5 1 (.slice A' (n+ks.length) c') (n+ks.length) ((xs++ks).map byteV)∧Below base w w'∧Stay w w':=by
 obtain ⟨i0,hi,hz0,hz1,hz2⟩:=info_parts infoU8
 have hs:(⟨ks.toArray⟩:ByteArray).size=ks.length:=by simp [ByteArray.size]
 obtain ⟨v',w',hrun,h2,h3,_⟩:=Lib.run_append_own_string (P:=Tryz.prog) (w:=w) base 37 9 ty 5 i0 Tryz.underlying37 Tryz.underlying9 hi hz0 hz1 hz2 _ n _ hown ⟨ks.toArray⟩ (by rw [hs];unfold maxLen;omega) (by rw [hs];omega) hbase
 rw [hs,Zpq,←List.map_append] at h2
 obtain ⟨A',c',rfl,_⟩:=Zp h2
 exact ⟨A',c',w',hrun,h2,(Below.refl _ w).grown h3 hbase (fun g hg=>(hown.lt g hg).1),Stay.grown hown h3⟩

theorem Ze8 {t:TypeId} (ht:IsSl t) (ty:TypeId) (A:Option Addr) (n c:Nat) (x:Value) (w:World):(Builtin.append_ #[t,9] ty #[.slice A n c,x]).run Tryz.prog w=(Builtin.append_ #[37,9] ty #[.slice A n c,x]).run Tryz.prog w:=by
 have h1:IsSl 37:=Tryz.underlying37
 unfold IsSl at *
 unfold Builtin.append_
 simp [run_underlying ht,run_underlying h1]

theorem isSl_made:IsSl 197:=Tryz.underlying197
theorem isSl_bytes:IsSl 37:=Tryz.underlying37

section
variable {ops:Array Oper} {rest:List Oper} {o:Oper} {a:Act} {w:World} {Q:Exit→Act→World→Prop} {K:Act→World→Prop} {E:Prop}
theorem Za4 {t u:TypeId} (ht:IsSl t) (hu:IsSl u) (hgd:o.guard=none) (s x:Operand) (ho:o.op=.call { callee:=.builtin .append,args:=#[s,x],argTypes:=#[t,u] })
 {base:Nat} {A0:Option Addr} {n c0:Nat} {xs:List UInt8} (hs:a.eval s=.slice A0 n c0) (hown:w.ownsRow base 5 1 (.slice A0 n c0) n (xs.map byteV))
 {A:Option Addr} {m c:Nat} {ys:List UInt8} (hx:a.eval x=.slice A m c) (hr:Sl w A m c ys) (k:Nat) (hk:n+m=k) (hk2:k≤140737488351232) (hbase:base≤w.heap.size)
 (h:∀ A' c' w',w'.ownsRow base 5 1 (.slice A' k c') k ((xs++ys).map byteV)→Below base w w'→Stay w w'→wpList Tryz.prog ops Q rest (a.put o.dst (.slice A' k c')) w'):wpList Tryz.prog ops Q (o :: rest) a w:=by
 subst hk
 refine wpList_plain hgd fun K hK=>?_
 obtain ⟨A',c',w',hrun,h2,h3,h4⟩:=Zc5 (ty:=o.type) hown hr hk2 hbase
 rw [←Ze7 ht hu] at hrun
 unfold Oper.wp execOp
 simp only [ho,resolve,invoke,builtin,Sem.run_bind,Sem.run_pure,Result.andThen_ok,List.map_toArray,List.map_cons,List.map_nil,hs,hx,hrun]
 exact hK _ _ (h A' c' w' h2 h3 h4)
theorem Zbu {t:TypeId} (ht:IsSl t) (hgd:o.guard=none) (s x:Operand) (ho:o.op=.call { callee:=.builtin .append,args:=#[s,x],argTypes:=#[t,9] })
 {base:Nat} {A0:Option Addr} {n c0:Nat} {xs:List UInt8} (hs:a.eval s=.slice A0 n c0) (hown:w.ownsRow base 5 1 (.slice A0 n c0) n (xs.map byteV))
 {ks:List UInt8} (hx:a.eval x=.string ⟨ks.toArray⟩) (k:Nat) (hk:n+ks.length=k) (hk2:k≤140737488351232) (hbase:base≤w.heap.size)
 (h:∀ A' c' w',w'.ownsRow base 5 1 (.slice A' k c') k ((xs++ks).map byteV)→Below base w w'→Stay w w'→wpList Tryz.prog ops Q rest (a.put o.dst (.slice A' k c')) w'):wpList Tryz.prog ops Q (o :: rest) a w:=by
 subst hk
 refine wpList_plain hgd fun K hK=>?_
 obtain ⟨A',c',w',hrun,h2,h3,h4⟩:=Zf6 (ty:=o.type) hown ks hk2 hbase
 rw [←Ze8 ht] at hrun
 unfold Oper.wp execOp
 simp only [ho,resolve,invoke,builtin,Sem.run_bind,Sem.run_pure,Result.andThen_ok,List.map_toArray,List.map_cons,List.map_nil,hs,hx,hrun]
 exact hK _ _ (h A' c' w' h2 h3 h4)
theorem Zsg {t u:TypeId} (ht:IsSl t) (hu:IsSl u) (hgd:o.guard=none) (s x:Operand) (ho:o.op=.call { callee:=.builtin .append,args:=#[s,x],argTypes:=#[t,u] })
 {base:Nat} {A0:Option Addr} {n c0:Nat} {xs:List UInt8} (hs:a.eval s=.slice A0 n c0) (hown:w.ownsRow base 5 1 (.slice A0 n c0) n (xs.map byteV))
 {A:Option Addr} {m c:Nat} {ys:List UInt8} (hx:a.eval x=.slice A m c) (hr:Sl w A m c ys) (k:Nat) (hk:n+m=k) (hk2:k≤140737488351232) (hbase:base≤w.heap.size)
 (h:∀ A' c' w',w'.ownsRow base 5 1 (.slice A' k c') k ((xs++ys).map byteV)→Below base w w'→Stay w w'→K (a.put o.dst (.slice A' k c')) w'):if Region.wanted o (yielded ops a.tmps)=true then Oper.wp Tryz.prog o a w K Q else E:=by
 subst hk
 have hw:Region.wanted o (yielded ops a.tmps)=true:=by simp [Region.wanted,hgd]
 rw [if_pos hw]
 obtain ⟨A',c',w',hrun,h2,h3,h4⟩:=Zc5 (ty:=o.type) hown hr hk2 hbase
 rw [←Ze7 ht hu] at hrun
 unfold Oper.wp execOp
 simp only [ho,resolve,invoke,builtin,Sem.run_bind,Sem.run_pure,Result.andThen_ok,List.map_toArray,List.map_cons,List.map_nil,hs,hx,hrun]
 exact h A' c' w' h2 h3 h4
end
end Go.Proofs.YtkelafkbmnjpeaaGreat

namespace Go.Proofs.YtkelafkbmnjpeaaGreat
open Go.Lib (hid)
open Go.RowKit

theorem Zbt (s:Src) (n:Int):(takeS s n).1.length≤s.1.length∧(takeS s n).2.1.length≤s.1.length:=by
 unfold takeS
 split
 ·simp
 ·simp;omega
theorem Yr (s:Src) (n:Int):(numS s n).2.1.length≤s.1.length:=(Zbt s n).2
theorem Zma (s:Src) (n:Int):∃ k:Nat,(numS s n).1=(k:Int):=⟨(valB (takeS s n).1).toNat,by have:=(Zam (takeS s n).1).1;show valB _=_;omega⟩
theorem Zuq (s:Src) (k:Nat) (h:k≤6):(numS s (k:Int)).1 < 281474976710656:=(Y7 _ (by
 unfold takeS
 split
 ·simp
 ·simp;omega)).2
theorem At.up {w w':World} {g:Nat} {s:Src} (h:At w g s) (hg:Grows w w'):At w' g s:=by
 obtain ⟨A,n,c,hw,hl⟩:=h
 exact ⟨A,n,c,hg.whole hw,hl.carry (Below.mono hg (Nat.le_of_lt hw.lt))⟩
theorem At.lt {w:World} {g:Nat} {s:Src} (h:At w g s):g < w.heap.size:=by
 obtain ⟨A,n,c,hw,hl⟩:=h
 exact hw.lt

theorem Zhy (g:Nat) (s:Src) (w:World) (h:At w g s) (hs:s.1.length≤140737488351232) :
 Calls Tryz.prog 276 #[.pointer (some ⟨g,0,none⟩)] w fun e w'=>∃ A m c,e=.returned (.slice A m c)∧Low w' g A m c (restS s).1∧At w' g (restS s).2∧Turns g w w':=by
 have HT:=hid (Zhz g s s.1.length w h (by omega) hs)
 obtain ⟨A,m,c,hw,hl⟩:=h
 have c0:=hw.cell 0
 simp only [Gt] at c0
 have hlen:=Bytes.len hl.bytes
 unfold restS
 rw [hlen]
 rw [hlen] at HT
 clear hw hl
 go_enter Tryz.func276,Tryz.ntmps276
 go_wp2_with (fail)
 refine HT.out.mono ?_
 rintro e w1 ⟨A1,m1,c1,rfl,hr⟩
 have HR:=hid hr
 clear hr
 go_wp2_with (fail)
 go_ret
 exact ⟨A1,m1,c1,rfl,HR.out⟩

theorem Zgu (g:Nat) (s:Src) (w:World) (h:At w g s) :
 Calls Tryz.prog 226 #[.pointer (some ⟨g,0,none⟩)] w fun e w'=>e=.returned (.bool (decide (s.2=false∧s.1=[])))∧w=w':=by
 obtain ⟨A,m,c,hw,hl⟩:=h
 have c0:=hw.cell 0
 have c1:=hw.cell 1
 simp only [Gt] at c0 c1
 have hlen:=Bytes.len hl.bytes
 obtain ⟨bs,short⟩:=s
 dsimp only at *
 have hm:(m=0)↔bs=[]:=by rw [←hlen];exact List.length_eq_zero_iff
 clear hw hl
 cases short with
 | true =>
   go_enter Tryz.func226,Tryz.ntmps226
   go_wp2_with (fail)
   go_ret
   exact ⟨rfl,rfl⟩
 | false =>
   have HM:=hid hm
   clear hm
   go_enter Tryz.func226,Tryz.ntmps226
   go_wp2_with (fail)
   go_ret
   refine ⟨Zm ?_,rfl⟩
   rw [Bool.eq_iff_iff]
   have:=HM.out
   simp [←this]

theorem Zgv (A:Option Addr) (n c:Nat) (bs:List UInt8) (w:World) (hs:Sl w A n c bs) (hn:n≤140737488351232) :
 Calls Tryz.prog 225 #[.slice A n c] w fun e w'=>∃ A' m c',e=.returned (.slice A' m c')∧w'.ownsRow w.heap.size 5 1 (.slice A' m c') m (bs.map byteV)∧Below w.heap.size w w':=by
 have HS:=hid hs
 have hlen:=hs.len
 have heq:=fun (a:Option Addr) (l c:Nat) (w:World)=>Go.run_eql_slice_nil (P:=Tryz.prog) w 37 5 a l c Tryz.underlying37
 clear hs
 cases A with
 | none =>
   have hc:=HS.out.bare rfl
   have hcap:=HS.out.cap
   have hb:bs=[]:=List.eq_nil_of_length_eq_zero (by omega)
   subst hb
   go_enter Tryz.func225,Tryz.ntmps225
   go_wp2_with (fail)
   go_ret
   exact ⟨none,0,0,rfl,World.ownsRow_nil _ _ _ _,Below.refl _ _⟩
 | some ad =>
   go_enter Tryz.func225,Tryz.ntmps225
   go_wp2_with (at_builtin
                refine Za4 isSl_bytes isSl_bytes rfl (.tmp 5) (.tmp 6) rfl (base:=w.heap.size) rfl (Zm8 w) rfl (HS.out.alloc _) n (Nat.zero_add n) hn (Zcx _ _) ?_
                intro A2 c2 w2 ho2 hb2 hs2
                have HO2:=hid ho2
                have HB2:=hid (Below.trans (Zb w _) hb2)
                clear ho2 hb2 hs2)
   go_ret
   exact ⟨A2,n,c2,rfl,by simpa using HO2.out,HB2.out⟩

theorem Zmb (g:Nat) (s:Src) (w:World) (h:At w g s) (hs:s.1.length≤140737488351232) :
 Calls Tryz.prog 279 #[.pointer (some ⟨g,0,none⟩)] w fun e w'=>e=.returned (.string ⟨(keyS s).1.toArray⟩)∧At w' g (keyS s).2∧Turns g w w':=by
 have h1:=Za3 g s 1 w h (by omega) hs
 have h2:=fun w1 (h:At w1 g (numS s 1).2) (n:Nat) (hn:n≤9223372036854775807)=>Zhz g (numS s 1).2 n w1 h hn (Nat.le_trans (Yr s 1) hs)
 have hlt:=Zuq s 1 (by omega)
 obtain ⟨k,hk⟩:=Zma s 1
 unfold keyS
 rw [show ((1:Nat):Int)=1 from rfl] at h1 hlt
 rw [hk] at h1 hlt
 rw [hk]
 generalize (numS s 1).2=s1 at *
 have H1:=hid h1
 have H2:=hid h2
 clear h1 h2 h hk
 go_enter Tryz.func279,Tryz.ntmps279
 go_wp2_with (fail)
 refine H1.out.mono ?_
 rintro e w1 ⟨rfl,ha,ht⟩
 have HA:=hid (And.intro ha ht)
 clear ha ht
 go_wp2_with (fail)
 refine (H2.out w1 HA.out.1 k (by omega)).mono ?_
 rintro e w2 ⟨A,m,c,rfl,hl,ha2,ht2⟩
 have hst:=Z4 (hl.sl (Nat.le_of_lt ha2.lt))
 have HA2:=hid (And.intro ha2 (HA.out.2.trans ht2))
 clear hl ha2 ht2
 go_wp2_with (fail)
 go_ret
 exact ⟨rfl,HA2.out⟩
end Go.Proofs.YtkelafkbmnjpeaaGreat

namespace Go.Proofs.YtkelafkbmnjpeaaGreat
open Go.RowKit

def lcV (l:Lc):List Value:=[.int .i64 l.1,.int .i64 l.2.1,.int .i64 l.2.2]
def lcCells:List Lc→List Value
 | []=>[]
 | l :: ls=>lcV l++lcCells ls
theorem lcCells_length:∀ ls:List Lc,(lcCells ls).length=3*ls.length
 | []=>rfl
 | l :: ls=>by
   rw [lcCells,List.length_append,lcCells_length ls,List.length_cons]
   show 3+_=_
   omega
theorem lcCells_append:∀ a b:List Lc,lcCells (a++b)=lcCells a++lcCells b
 | [],_=>rfl
 | l :: a,b=>by rw [List.cons_append,lcCells,lcCells,lcCells_append a b,List.append_assoc]
theorem lcCells_get:∀ (ls:List Lc) (i:Nat) (l:Lc),ls[i]?=some l →
 (lcCells ls)[3*i]?=some (.int .i64 l.1)∧(lcCells ls)[3*i+1]?=some (.int .i64 l.2.1)∧(lcCells ls)[3*i+2]?=some (.int .i64 l.2.2)
 | l :: ls,0,_,h=>by
   simp only [List.getElem?_cons_zero,Option.some.injEq] at h
   subst h
   exact ⟨rfl,rfl,rfl⟩
 | l :: ls,i+1,l',h=>by
   obtain ⟨h1,h2,h3⟩:=lcCells_get ls i l' (by simpa using h)
   have e:∀ k,(lcV l++lcCells ls)[3+k]?=(lcCells ls)[k]?:=fun k=>by
    rw [List.getElem?_append_right (by simp [lcV])]
    simp [lcV]
   refine ⟨?_,?_,?_⟩
   ·rw [show 3*(i+1)=3+3*i by omega];exact (e _).trans h1
   ·rw [show 3*(i+1)+1=3+(3*i+1) by omega];exact (e _).trans h2
   ·rw [show 3*(i+1)+2=3+(3*i+2) by omega];exact (e _).trans h3
 | [],i,_,h=>by simp at h

structure Locs (w:World) (A:Option Addr) (n c:Nat) (ls:List Lc):Prop where
 len:ls.length=n
 cap:n≤c
 bare:A=none→c=0
 row:Row w w.heap.size A (3*n) (lcCells ls)
theorem Locs.grow {w w':World} {A:Option Addr} {n c:Nat} {ls:List Lc} (hg:Grows w w') (h:Locs w A n c ls):Locs w' A n c ls:=⟨h.len,h.cap,h.bare,hg.row h.row⟩
theorem Locs.nil (w:World):Locs w none 0 0 []:=⟨rfl,Nat.le_refl _,fun _=>rfl,Row.nil _ _ _⟩
theorem Locs.spot {w:World} {A:Option Addr} {n c:Nat} {ls:List Lc} (h:Locs w A n c ls) {i:Nat} (hi:i < n) :
 ∃ ad,A=some ad∧(∀ w',Grows w w'→w'.cell? (ad.add (i*3))=some (.int .i64 (ls.getD i (0,0,0)).1)) ∧
  (∀ w',Grows w w'→w'.cell? { block:=(ad.add (i*3)).block,off:=(ad.add (i*3)).off+1 }=some (.int .i64 (ls.getD i (0,0,0)).2.1)) ∧
  (∀ w',Grows w w'→w'.cell? { block:=(ad.add (i*3)).block,off:=(ad.add (i*3)).off+2 }=some (.int .i64 (ls.getD i (0,0,0)).2.2)):=by
 have hl:=h.len
 have ht:ls[i]?=some (ls.getD i (0,0,0)):=by
  rw [List.getElem?_eq_getElem (by omega)]
  simp [show i < ls.length by omega]
 obtain ⟨g1,g2,g3⟩:=lcCells_get ls i _ ht
 obtain ⟨ad,hA,_,c1⟩:=h.row.spot _ _ g1
 obtain ⟨ad2,hA2,_,c2⟩:=h.row.spot _ _ g2
 obtain ⟨ad3,hA3,_,c3⟩:=h.row.spot _ _ g3
 rw [hA] at hA2 hA3
 injection hA2 with hA2
 injection hA3 with hA3
 subst hA2 hA3
 have e1:ad.add (3*i)=ad.add (i*3):=by rw [Nat.mul_comm]
 have e2:ad.add (3*i+1)={ block:=(ad.add (i*3)).block,off:=(ad.add (i*3)).off+1 }:=by rw [Nat.mul_comm,←Jg,Addr.add_succ' (ad.add (i*3)) 0]
 have e3:ad.add (3*i+2)={ block:=(ad.add (i*3)).block,off:=(ad.add (i*3)).off+2 }:=by rw [Nat.mul_comm,←Jg,Addr.add_succ' (ad.add (i*3)) 1]
 have up:∀ (p:Addr) (v:Value),w.cell? p=some v→∀ w',Grows w w'→w'.cell? p=some v:=fun p v hp w' hg=>(hg.cell (World.block_lt_of_cell? w _ hp)).trans hp
 rw [e1] at c1
 rw [e2] at c2
 rw [e3] at c3
 exact ⟨ad,hA,up _ _ c1,up _ _ c2,up _ _ c3⟩
theorem Locs.owned {w:World} {base:Nat} {e:TypeId} {A:Option Addr} {n c:Nat} {ls:List Lc} (hn:ls.length=n) (h:w.ownsRow base e 3 (.slice A n c) n (lcCells ls)):Locs w A n c ls:=by
 refine ⟨hn,?_,?_,?_⟩
 ·rcases h.2 with ⟨h1,h2⟩ | ⟨g,cap,_,h1,_,_,h2,_⟩
  ·omega
  ·injection h1 with _ _ h1;omega
 ·intro hA
  rcases h.2 with ⟨h1,h2⟩ | ⟨g,cap,_,h1,_⟩
  ·injection h1
  ·injection h1 with h1 _ _;rw [hA] at h1;cases h1
 ·refine ⟨by rw [lcCells_length,hn],fun k v hv=>?_⟩
  have hpos:0 < n:=by
   rcases Nat.eq_zero_or_pos n with h0 | h0
   ·subst h0
    have:lcCells ls=[]:=List.eq_nil_of_length_eq_zero (by rw [lcCells_length,hn])
    rw [this] at hv
    simp at hv
   ·exact h0
  obtain ⟨g,cap,hval,_,hlt⟩:=h.form hpos
  injection hval with hA _ _
  subst hA
  exact ⟨_,rfl,hlt,h.cells (g:=g) rfl k v hv⟩

structure RcIn (w:World) (LA:Option Addr) (ln lc:Nat) (BA:Option Addr) (bn bc:Nat) (r:Rc):Prop where
 locs:Locs w LA ln lc r.locs
 sl:Sl w BA bn bc r.b
theorem RcIn.grow {w w':World} {LA:Option Addr} {ln lc:Nat} {BA:Option Addr} {bn bc:Nat} {r:Rc} (hg:Grows w w') (h:RcIn w LA ln lc BA bn bc r):RcIn w' LA ln lc BA bn bc r:=⟨h.locs.grow hg,h.sl.grow hg⟩

theorem sumN_append:∀ a b:List Lc,sumN (a++b)=sumN a+sumN b
 | [],b=>by simp [sumN]
 | l :: a,b=>by rw [List.cons_append,sumN,sumN,sumN_append a b];omega
theorem Zh0 (ls:List Lc) (k:Nat) (h:k < ls.length):ls.take (k+1)=ls.take k++[ls.getD k (0,0,0)]:=by
 rw [List.take_succ_eq_append_getElem h]
 simp [h]
def Seen (ls:List Lc) (k:Nat) (s:Int):Prop:=(∀ l∈ls.take k,LocOk l)∧sumN (ls.take k)=s
theorem Seen.start (ls:List Lc):Seen ls 0 0:=⟨fun l h=>by simp at h,by simp [sumN]⟩
theorem Seen.next {ls:List Lc} {k:Nat} {s:Int} (h:Seen ls k s) (hk:k < ls.length) (ho:LocOk (ls.getD k (0,0,0))):Seen ls (k+1) (s+(ls.getD k (0,0,0)).2.2):=by
 unfold Seen
 rw [Zh0 ls k hk]
 refine ⟨fun l hl=>?_,?_⟩
 ·rcases List.mem_append.1 hl with hl | hl
  ·exact h.1 l hl
  ·rw [List.mem_singleton] at hl
   rw [hl];exact ho
 ·rw [sumN_append,h.2]
  simp [sumN]
theorem Seen.ill {ls:List Lc} {k:Nat} (hk:k < ls.length) (ho:¬ LocOk (ls.getD k (0,0,0))) (z:Int):¬ Yu ls z:=fun h=>ho (h.2.1 _ (by
 rw [List.getD_eq_getElem?_getD,List.getElem?_eq_getElem hk]
 exact List.getElem_mem hk))
theorem Seen.all {ls:List Lc} {s:Int} (h:Seen ls ls.length s) (hn:ls.length≤512) (z:Int):Yu ls z↔s=z:=by
 obtain ⟨h1,h2⟩:=h
 rw [List.take_length] at h1 h2
 exact ⟨fun h=>h2 ▸ h.2.2,fun h=>⟨hn,h1,h2.trans h⟩⟩
theorem Zpr {ls:List Lc} (h:∀ l∈ls,LocOk l):0≤sumN ls∧sumN ls≤4096*(ls.length:Int):=by
 induction ls with
 | nil=>simp [sumN]
 | cons l ls ih =>
   have h1:=h l (by simp)
   have h2:=ih fun x hx=>h x (by simp [hx])
   unfold LocOk at h1
   rw [sumN,List.length_cons]
   omega
theorem Seen.bound {ls:List Lc} {k:Nat} {s:Int} (h:Seen ls k s):0≤s∧s≤4096*(k:Int):=by
 have h1:=Zpr h.1
 rw [h.2,List.length_take] at h1
 have:((min k ls.length:Nat):Int)≤k:=by omega
 omega
end Go.Proofs.YtkelafkbmnjpeaaGreat

set_option maxHeartbeats 4000000
set_option maxRecDepth 100000
namespace Go.Proofs.YtkelafkbmnjpeaaGreat
open Go.Lib (hid)
open Go.RowKit

theorem Turns.whole {g k t:Nat} {w w':World} {cs:Array Value} (h:Turns g w w') (hw:Whole w k t cs) (hk:k≠g):Whole w' k t cs:=by
 unfold Whole
 rw [h.block k hw.lt (fun e=>hk (by injection e))]
 exact hw
theorem Turns.then {g:Nat} {w w1 W:World} (h:Turns g w w1) (hb:Below w.heap.size w1 W):Turns g w W :=
 ⟨hb.os.trans h.os,hb.tape.trans h.tape,hb.output.trans h.output,Nat.le_trans h.size hb.size,fun k hk hne=>(hb.block k hk).trans (h.block k hk hne)⟩
theorem At.under {g k:Nat} {w W:World} {s:Src} (h:At w g s) (hb:Below k w W) (hk:g < k):At W g s:=by
 obtain ⟨A,n,c,hw,hl⟩:=h
 exact ⟨A,n,c,hw.below hb hk,hl.carry (Below.mono hb (Nat.le_of_lt hk))⟩
structure RcOwn (w:World) (base:Nat) (LA:Option Addr) (ln lc:Nat) (BA:Option Addr) (bn bc:Nat) (r:Rc):Prop where
 locs:w.ownsRow base 140 3 (.slice LA ln lc) ln (lcCells r.locs)
 len:r.locs.length=ln
 b:w.ownsRow base 5 1 (.slice BA bn bc) bn (r.b.map byteV)
theorem RcOwn.inn {w:World} {base:Nat} {LA:Option Addr} {ln lc:Nat} {BA:Option Addr} {bn bc:Nat} {r:Rc} (h:RcOwn w base LA ln lc BA bn bc r):RcIn w LA ln lc BA bn bc r:=⟨Locs.owned h.len h.locs,Sl.owned h.b⟩
theorem RcOwn.grow {w w':World} {base:Nat} {LA:Option Addr} {ln lc:Nat} {BA:Option Addr} {bn bc:Nat} {r:Rc} (h:RcOwn w base LA ln lc BA bn bc r) (hg:Grows w w'):RcOwn w' base LA ln lc BA bn bc r:=⟨Zd h.locs hg,h.len,Zd h.b hg⟩
theorem RcOwn.nil (w:World) (base:Nat) (k:Int) (s:List UInt8) (id no size:Int):RcOwn w base none 0 0 none 0 0 ⟨k,s,id,no,size,[],[]⟩:=⟨World.ownsRow_nil _ _ _ _,rfl,World.ownsRow_nil _ _ _ _⟩
theorem Y6 {w:World} {k t:Nat} {u0 u1 u2 u3 u4 u5 u6:Value} (h:Whole w k t #[u0,u1,u2,u3,u4,u5,u6]) (v0 v1 v2 v3 v4 v5 v6:Value) :
 ∃ W,(((((((w.setCell ⟨k,0,none⟩ v0).setCell ⟨k,1,none⟩ v1).setCell ⟨k,2,none⟩ v2).setCell ⟨k,3,none⟩ v3).setCell ⟨k,4,none⟩ v4).setCell ⟨k,5,none⟩ v5).setCell ⟨k,6,none⟩ v6)=W∧Whole W k t #[v0,v1,v2,v3,v4,v5,v6]∧Turns k w W :=
 ⟨_,rfl,by
  have hp:=((((((h.put 0 v0).put 1 v1).put 2 v2).put 3 v3).put 4 v4).put 5 v5).put 6 v6
  simp only [List.setIfInBounds_toArray,List.set_cons_zero,List.set_cons_succ] at hp
  exact hp,((((((Turns.set 0 v0).trans (Turns.set 1 v1)).trans (Turns.set 2 v2)).trans (Turns.set 3 v3)).trans (Turns.set 4 v4)).trans (Turns.set 5 v5)).trans (Turns.set 6 v6)⟩
theorem Jv {k base:Nat} {w W:World} {e size:Nat} {v:Value} {n:Nat} {xs:List Value} (h:w.ownsRow base e size v n xs) (ht:Turns k w W) (hk:k < base):W.ownsRow base e size v n xs :=
 h.kept ht (by
  rcases h.2 with ⟨rfl,_⟩ | ⟨g,cap,cur,rfl,hg,_⟩
  ·exact .inl rfl
  ·exact .inr (fun e=>by simp [Value.ownBlock] at e;omega))
theorem RcOwn.turn {w W:World} {k base:Nat} {LA:Option Addr} {ln lc:Nat} {BA:Option Addr} {bn bc:Nat} {r:Rc} (h:RcOwn w base LA ln lc BA bn bc r) (ht:Turns k w W) (hk:k < base):RcOwn W base LA ln lc BA bn bc r:=⟨Jv h.locs ht hk,h.len,Jv h.b ht hk⟩
theorem RcOwn.from {w:World} {b1 base:Nat} {LA:Option Addr} {ln lc:Nat} {BA:Option Addr} {bn bc:Nat} {r:Rc} (h:RcOwn w b1 LA ln lc BA bn bc r) (hb:base≤b1):RcOwn w base LA ln lc BA bn bc r:=⟨Zh h.locs hb,h.len,Zh h.b hb⟩

theorem Zsf (g:Nat) (s:Src) (w:World) (h:At w g s) (hs:s.1.length≤140737488351232) :
 Calls Tryz.prog 224 #[.pointer (some ⟨g,0,none⟩)] w fun e w'=>∃ LA ln lc BA bn bc,e=.returned (.agg #[.int .i64 0,.string ⟨(tombS s).1.key.toArray⟩,.int .i64 (tombS s).1.id,.int .i64 (tombS s).1.no,.int .i64 (tombS s).1.size,.slice LA ln lc,.slice BA bn bc])∧RcOwn w' w.heap.size LA ln lc BA bn bc (tombS s).1∧At w' g (tombS s).2∧Turns g w w':=by
 have hg:=h.lt
 have H1:=hid (Zhy g s (w.alloc (.cells #[.int .i64 0,.string ⟨#[]⟩,.int .i64 0,.int .i64 0,.int .i64 0,.slice none 0 0,.slice none 0 0] 196)) (h.up (Zb _ _)) hs)
 have hz0:=Whole.made w 196 #[.int .i64 0,.string ⟨#[]⟩,.int .i64 0,.int .i64 0,.int .i64 0,.slice none 0 0,.slice none 0 0]
 have HZ:=hid hz0
 clear h hz0
 unfold tombS
 dsimp only
 generalize restS s=r at *
 go_enter Tryz.func224,Tryz.ntmps224
 go_wp2_with (fail)
 refine H1.out.mono ?_
 rintro e w1 ⟨A,m,c,rfl,hl,ha,ht⟩
 have hst:=Z4 (hl.sl (Nat.le_of_lt ha.lt))
 have hz:=ht.whole HZ.out (by omega)
 have HZ1:=hid hz
 have HA:=hid (And.intro ha (Turns.trans (Turns.grow (Zb _ _)) ht))
 have zc0:=hz.cell 0
 have zf0:=hz.free 0
 have zc1:=hz.cell 1
 have zf1:=hz.free 1
 have zc2:=hz.cell 2
 have zf2:=hz.free 2
 have zc3:=hz.cell 3
 have zf3:=hz.free 3
 have zc4:=hz.cell 4
 have zf4:=hz.free 4
 have zc5:=hz.cell 5
 have zf5:=hz.free 5
 have zc6:=hz.cell 6
 have zf6:=hz.free 6
 simp only [Gt] at zc0 zc1 zc2 zc3 zc4 zc5 zc6
 clear hl ha ht hz
 go_wp2_with (fail)
 obtain ⟨W,hW,hwh,hwt⟩:=Y6 HZ1.out (.int .i64 0) (.string ⟨r.1.toArray⟩) (.int .i64 0) (.int .i64 0) (.int .i64 0) (.slice none 0 0) (.slice none 0 0)
 rw [hW]
 have HWB:=hid (And.intro hwt (hwt.below (by have:=HZ1.out.lt;omega)))
 clear hW hwt
 refine bodyPost_ret (results_cell_row rfl _ _ w.heap.size _ _ (0,0) _ rfl hwh Tryz.underlying196 rfl (by kernel_rfl)) rfl ?_
 exact ⟨none,0,0,none,0,0,rfl,RcOwn.nil _ _ _ _ _ _ _,HA.out.1.under HWB.out.2 hg,HA.out.2.then HWB.out.2⟩

theorem Znj (g:Nat) (s:Src) (w:World) (h:At w g s) (hs:s.1.length≤140737488351232) :
 Calls Tryz.prog 221 #[.pointer (some ⟨g,0,none⟩)] w fun e w'=>∃ LA ln lc BA bn bc,e=.returned (.agg #[.int .i64 0,.string ⟨(Yy s).1.key.toArray⟩,.int .i64 (Yy s).1.id,.int .i64 (Yy s).1.no,.int .i64 (Yy s).1.size,.slice LA ln lc,.slice BA bn bc])∧RcOwn w' w.heap.size LA ln lc BA bn bc (Yy s).1∧At w' g (Yy s).2∧Turns g w w':=by
 have hg:=h.lt
 have hks:(keyS s).2.1.length≤s.1.length:=Nat.le_trans (Zbt _ _).2 (Yr s 1)
 have H1:=hid (Zmb g s (w.alloc (.cells #[.int .i64 0,.string ⟨#[]⟩,.int .i64 0,.int .i64 0,.int .i64 0,.slice none 0 0,.slice none 0 0] 196)) (h.up (Zb _ _)) hs)
 have hr:=fun (w1:World) (h:At w1 g (keyS s).2)=>Zhy g (keyS s).2 w1 h (by omega)
 have hrl:(restS (keyS s).2).1.length≤s.1.length:=Nat.le_trans (Zbt _ _).1 hks
 have HZ:=hid (Whole.made w 196 #[.int .i64 0,.string ⟨#[]⟩,.int .i64 0,.int .i64 0,.int .i64 0,.slice none 0 0,.slice none 0 0])
 have HR:=hid hr
 clear h hr
 unfold Yy
 dsimp only
 generalize restS (keyS s).2=r at *
 generalize keyS s=k at *
 go_enter Tryz.func221,Tryz.ntmps221
 go_wp2_with (fail)
 refine (H1.out).mono ?_
 rintro e w1 ⟨rfl,ha1,ht1⟩
 have HZ1:=hid (ht1.whole HZ.out (by omega))
 have HA1:=hid (And.intro ha1 (Turns.trans (Turns.grow (Zb _ _)) ht1))
 clear ha1 ht1
 go_wp2_with (fail)
 refine (HR.out w1 HA1.out.1).mono ?_
 rintro e w2 ⟨A2,m2,c2,rfl,hl2,ha2,ht2⟩
 have hlen:=Bytes.len hl2.bytes
 have HS2:=hid (hl2.sl (Nat.le_of_lt ha2.lt))
 have HA2:=hid (And.intro ha2 (HA1.out.2.trans ht2))
 have HZ2:=hid (ht2.whole HZ1.out (by omega))
 clear hl2 ha2 ht2
 go_wp2_with (fail)
 refine (Zgv A2 m2 c2 _ w2 HS2.out (by omega)).mono ?_
 rintro e w3 ⟨A3,m3,c3,rfl,ho,hb⟩
 have hz:=Grows.whole hb HZ2.out
 have HZ3:=hid hz
 have HA3:=hid (And.intro (HA2.out.1.up hb) (HA2.out.2.trans (Turns.grow hb)))
 have HO:=hid (And.intro ho HZ2.out.lt)
 have zc0:=hz.cell 0
 have zf0:=hz.free 0
 have zc1:=hz.cell 1
 have zf1:=hz.free 1
 have zc2:=hz.cell 2
 have zf2:=hz.free 2
 have zc3:=hz.cell 3
 have zf3:=hz.free 3
 have zc4:=hz.cell 4
 have zf4:=hz.free 4
 have zc5:=hz.cell 5
 have zf5:=hz.free 5
 have zc6:=hz.cell 6
 have zf6:=hz.free 6
 simp only [Gt] at zc0 zc1 zc2 zc3 zc4 zc5 zc6
 clear ho hb hz
 go_wp2_with (fail)
 obtain ⟨W,hW,hwh,hwt⟩:=Y6 HZ3.out (.int .i64 0) (.string ⟨k.1.toArray⟩) (.int .i64 0) (.int .i64 0) (.int .i64 0) (.slice none 0 0) (.slice A3 m3 c3)
 rw [hW]
 have HWB:=hid (And.intro hwt (hwt.below (by have:=HZ3.out.lt;omega)))
 clear hW hwt
 refine bodyPost_ret (results_cell_row rfl _ _ w.heap.size _ _ (0,0) _ rfl hwh Tryz.underlying196 rfl (by kernel_rfl)) rfl ?_
 exact ⟨none,0,0,A3,m3,c3,rfl,⟨World.ownsRow_nil _ _ _ _,rfl,Zh (Jv HO.out.1 HWB.out.1 HO.out.2) HA2.out.2.size⟩,HA3.out.1.under HWB.out.2 hg,HA3.out.2.then HWB.out.2⟩

theorem Zpp (g:Nat) (s:Src) (w:World) (h:At w g s) (hs:s.1.length≤140737488351232) :
 Calls Tryz.prog 215 #[.pointer (some ⟨g,0,none⟩)] w fun e w'=>∃ LA ln lc BA bn bc,e=.returned (.agg #[.int .i64 0,.string ⟨(J0 s).1.key.toArray⟩,.int .i64 (J0 s).1.id,.int .i64 (J0 s).1.no,.int .i64 (J0 s).1.size,.slice LA ln lc,.slice BA bn bc])∧RcOwn w' w.heap.size LA ln lc BA bn bc (J0 s).1∧At w' g (J0 s).2∧Turns g w w':=by
 have hg:=h.lt
 have h6:=Yr s 6
 have h2:=Yr (numS s 6).2 2
 have H1:=hid (Za3 g s 6 (w.alloc (.cells #[.int .i64 0,.string ⟨#[]⟩,.int .i64 0,.int .i64 0,.int .i64 0,.slice none 0 0,.slice none 0 0] 196)) (h.up (Zb _ _)) (by omega) hs)
 have H2:=hid (fun (w1:World) (h:At w1 g (numS s 6).2)=>Za3 g (numS s 6).2 2 w1 h (by omega) (by omega))
 have hr:=fun (w1:World) (h:At w1 g (numS (numS s 6).2 2).2)=>Zhy g (numS (numS s 6).2 2).2 w1 h (by omega)
 have hrl:(restS (numS (numS s 6).2 2).2).1.length≤s.1.length:=Nat.le_trans (Zbt _ _).1 (by omega)
 have HZ:=hid (Whole.made w 196 #[.int .i64 0,.string ⟨#[]⟩,.int .i64 0,.int .i64 0,.int .i64 0,.slice none 0 0,.slice none 0 0])
 have HR:=hid hr
 clear h hr h6 h2
 unfold J0
 dsimp only
 rw [show ((6:Nat):Int)=6 from rfl] at H1
 rw [show ((2:Nat):Int)=2 from rfl] at H2
 generalize restS (numS (numS s 6).2 2).2=r at *
 generalize numS (numS s 6).2 2=y at *
 generalize numS s 6=x at *
 go_enter Tryz.func215,Tryz.ntmps215
 go_wp2_with (fail)
 refine (H1.out).mono ?_
 rintro e w1 ⟨rfl,ha1,ht1⟩
 have HZ1:=hid (ht1.whole HZ.out (by omega))
 have HA1:=hid (And.intro ha1 (Turns.trans (Turns.grow (Zb _ _)) ht1))
 clear ha1 ht1
 go_wp2_with (fail)
 refine (H2.out w1 HA1.out.1).mono ?_
 rintro e w2 ⟨rfl,ha2,ht2⟩
 have HZ2:=hid (ht2.whole HZ1.out (by omega))
 have HA2:=hid (And.intro ha2 (HA1.out.2.trans ht2))
 clear ha2 ht2
 go_wp2_with (fail)
 refine (HR.out w2 HA2.out.1).mono ?_
 rintro e w3 ⟨A3,m3,c3,rfl,hl3,ha3,ht3⟩
 have hlen:=Bytes.len hl3.bytes
 have HS3:=hid (hl3.sl (Nat.le_of_lt ha3.lt))
 have HA3:=hid (And.intro ha3 (HA2.out.2.trans ht3))
 have HZ3:=hid (ht3.whole HZ2.out (by omega))
 clear hl3 ha3 ht3
 go_wp2_with (fail)
 refine (Zgv A3 m3 c3 _ w3 HS3.out (by omega)).mono ?_
 rintro e w4 ⟨A4,m4,c4,rfl,ho,hb⟩
 have hz:=Grows.whole hb HZ3.out
 have HZ4:=hid hz
 have HA4:=hid (And.intro (HA3.out.1.up hb) (HA3.out.2.trans (Turns.grow hb)))
 have HO:=hid (And.intro ho HZ3.out.lt)
 have zc0:=hz.cell 0
 have zf0:=hz.free 0
 have zc1:=hz.cell 1
 have zf1:=hz.free 1
 have zc2:=hz.cell 2
 have zf2:=hz.free 2
 have zc3:=hz.cell 3
 have zf3:=hz.free 3
 have zc4:=hz.cell 4
 have zf4:=hz.free 4
 have zc5:=hz.cell 5
 have zf5:=hz.free 5
 have zc6:=hz.cell 6
 have zf6:=hz.free 6
 simp only [Gt] at zc0 zc1 zc2 zc3 zc4 zc5 zc6
 clear ho hb hz
 go_wp2_with (fail)
 obtain ⟨W,hW,hwh,hwt⟩:=Y6 HZ4.out (.int .i64 0) (.string ⟨#[]⟩) (.int .i64 x.1) (.int .i64 y.1) (.int .i64 0) (.slice none 0 0) (.slice A4 m4 c4)
 rw [hW]
 have HWB:=hid (And.intro hwt (hwt.below (by have:=HZ4.out.lt;omega)))
 clear hW hwt
 refine bodyPost_ret (results_cell_row rfl _ _ w.heap.size _ _ (0,0) _ rfl hwh Tryz.underlying196 rfl (by kernel_rfl)) rfl ?_
 exact ⟨none,0,0,A4,m4,c4,rfl,⟨World.ownsRow_nil _ _ _ _,rfl,Zh (Jv HO.out.1 HWB.out.1 HO.out.2) HA3.out.2.size⟩,HA4.out.1.under HWB.out.2 hg,HA4.out.2.then HWB.out.2⟩
end Go.Proofs.YtkelafkbmnjpeaaGreat
