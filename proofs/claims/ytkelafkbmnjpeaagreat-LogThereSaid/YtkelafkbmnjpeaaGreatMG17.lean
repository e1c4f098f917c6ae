/-
  Texts that the statements lean on, one behind the other.
-/
import Derived.Test.YtkelafkbmnjpeaaGreatMG16
import Derived.RegionTactic
import Derived.BigRegion
import Derived.Laws.Cover3
import Derived.OwnWalk
import Derived.WalkSpells
import Derived.ChangeKeysEq
set_option linter.unusedSimpArgs false
set_option linter.unusedVariables false
set_option maxHeartbeats 2000000
set_option maxRecDepth 100000
namespace Go.Proofs.YtkelafkbmnjpeaaGreat
open Go.Lib (hid)
open Go.RowKit
theorem Zju (ad:Addr) (n c:Nat) (w:World):(binOp BinOp.eql 37 (.slice (some ad) n c) (.slice none 0 0)).run Tryz.prog w=.ok (.bool false) w :=
 Lib.run_eql_slice_nil w 37 _ (some ad) n c 0 0 Tryz.underlying37
theorem cellsU8:Tryz.prog.cellsOf 5=1:=by kernel_rfl
theorem eq4 (a0 a1 a2 a3 b0 b1 b2 b3:UInt8) (w:World):(Op.equalIn 10000 229 (.agg #[.int .u8 (a0.toNat:Nat),.int .u8 (a1.toNat:Nat),.int .u8 (a2.toNat:Nat),.int .u8 (a3.toNat:Nat)]) (.agg #[.int .u8 (b0.toNat:Nat),.int .u8 (b1.toNat:Nat),.int .u8 (b2.toNat:Nat),.int .u8 (b3.toNat:Nat)])).run Tryz.prog w=.ok (decide ([a0,a1,a2,a3]=[b0,b1,b2,b3])) w:=by
 obtain ⟨i0,hi,hz0,hz1,hz2⟩:=info_parts infoU8
 rw [run_equalIn_array w 9999 _ _ Tryz.underlying229 hi,cellsU8]
 simp only [List.range,List.range.loop,Op.eqItems]
 go_simp
 have e:∀ a b:UInt8,(((a.toNat:Nat):Int)=((b.toNat:Nat):Int))=(a=b):=fun a b=>propext ⟨fun h=>UInt8.toNat_inj.1 (by omega),fun h=>by rw [h]⟩
 simp only [e]
 by_cases h0:a0=b0 <;> by_cases h1:a1=b1 <;> by_cases h2:a2=b2 <;> by_cases h3:a3=b3 <;> simp [h0,h1,h2,h3]
theorem Znp (A:Option Addr) (n c:Nat) (bs:List UInt8) (w:World) (hs:Sl w A n c bs) (hn:n≤140737488351232) (hA:A≠none) :
 Calls Tryz.prog 225 #[.slice A n c] w fun e w'=>∃ A' c',e=.returned (.slice A' n c')∧w'.ownsRow w.heap.size 5 1 (.slice A' n c') n (bs.map byteV)∧Below w.heap.size w w':=by
 obtain ⟨i0,hi,hz0,hz1,hz2⟩:=info_parts infoU8
 have HI:=hid hi
 have HZ:=hid (And.intro hz0 (And.intro hz1 hz2))
 have HS:=hid hs
 clear hs hi hz0 hz1 hz2
 obtain ⟨ad,rfl⟩:=Option.ne_none_iff_exists'.1 hA
 clear hA
 have hnil:=Zju ad n c w
 go_enter Tryz.func225,Tryz.ntmps225
 go_wp2_with (first
  | (at_builtin
     refine Z9 rfl (.tmp 5) (.tmp 6) _ rfl Tryz.underlying37 HI.out HZ.out.1 HZ.out.2.1 HZ.out.2.2 rfl (v:=.slice (some ⟨w.heap.size,0,none⟩) 0 0) rfl (World.ownsRow_lit w #[] 0 (Nat.le_refl _) (Nat.zero_le _) rfl) (A:=some ad) (m:=n) (c:=c) rfl (HS.out.alloc _).bytes (fun h=>by cases h) (Y2 bs) n (by omega) (bs.map byteV) rfl (by unfold maxLen;omega) (by omega) (by simp) ?_
     intro A1 c1 w1 hown1 hbare1 hg1 hat1
     have hb1:Below w.heap.size w w1:=(((Below.refl _ _).alloc (Nat.le_refl _) _).grown hg1 (by simp) (fun k hk=>by injection hk with hk;exact Nat.le_of_eq hk))
     have HOWN1:=hid hown1
     have HB1:=hid hb1
     clear hown1 hbare1 hg1 hat1 hb1))
 go_ret
 exact ⟨A1,c1,rfl,HOWN1.out,HB1.out⟩
theorem Zk0 (A:Option Addr) (n c:Nat) (w:World) (h:n < 4) :
 Calls Tryz.prog 147 #[.slice A n c] w fun e w'=>e=.returned (.tuple #[.slice none 0 0,.int .i64 0,.int .i64 21])∧Below w.heap.size w w':=by
 go_enter Tryz.func147,Tryz.ntmps147
 go_wp2_with (fail)
 go_ret3
 exact ⟨rfl,Below.refl _ _⟩
theorem Za7 (x y:Nat) (hx:x < 256) (hy:y < 256):bits BinOp.or IntKind.i64 (wrap64 (wrap64 (x:Int)*256)) (wrap64 (y:Int))=((256*x+y:Nat):Int):=by
 have e1:wrap64 (wrap64 (x:Int)*256)=((x*256:Nat):Int):=by unfold wrap64;omega
 have e2:wrap64 (y:Int)=(y:Int):=by unfold wrap64;omega
 have h1:∀ z:Nat,z < 4294967296→(BitVec.ofInt 64 (z:Int)).toNat=z:=fun z hz=>by
  rw [BitVec.ofInt_natCast,BitVec.toNat_ofNat];exact Nat.mod_eq_of_lt (by omega)
 rw [e1,e2]
 show IntKind.i64.wrap ((BitVec.ofInt 64 ((x*256:Nat):Int) ||| BitVec.ofInt 64 (y:Int)).toNat:Int)=_
 rw [BitVec.toNat_or,h1 _ (by omega),h1 y (by omega),Nat.or_comm,nat_join8' _ _ (by omega) hy,IntKind.wrap_i64]
 omega
theorem Zgz {w w':World} {ad:Addr} {n c L:Nat} {bs:List UInt8} {y0 y1 y2 y3:UInt8} (hg:Grows w w') (hs:Sl w (some ad) n c bs) (hy:(bs.drop L).take 4=[y0,y1,y2,y3]) (hL:L+4≤n) :
 w'.cell? (ad.add L)=some (.int .u8 (y0.toNat:Nat))∧w'.cell? { block:=(ad.add L).block,off:=(ad.add L).off+1 }=some (.int .u8 (y1.toNat:Nat))∧w'.cell? { block:=(ad.add L).block,off:=(ad.add L).off+2 }=some (.int .u8 (y2.toNat:Nat))∧w'.cell? { block:=(ad.add L).block,off:=(ad.add L).off+3 }=some (.int .u8 (y3.toNat:Nat)):=by
 have hb:=(hs.grow hg).bytes
 have hl:=hs.len
 have key:∀ j,j < 4→w'.cell? ((ad.add L).add j)=some (.int .u8 (([y0,y1,y2,y3].getD j 0).toNat:Nat)):=fun j hj=>by
  obtain ⟨_,e,_,hc⟩:=hb.spot (k:=L+j) (by omega)
  injection e with e
  subst e
  rw [Jg,hc,←hy]
  congr 4
  simp only [List.getD_eq_getElem?_getD,List.getElem?_take,List.getElem?_drop,if_pos hj]
 have k0:=key 0 (by omega)
 have k1:=key 1 (by omega)
 have k2:=key 2 (by omega)
 have k3:=key 3 (by omega)
 simp only [List.getD_cons_zero,List.getD_cons_succ,Addr.add_zero',Addr.add_succ' (ad.add L),Nat.zero_add,Nat.reduceAdd] at k0 k1 k2 k3
 exact ⟨k0,k1,k2,k3⟩
theorem Znq (ad:Addr) (n c:Nat) (b0 b1 b2 b3:UInt8) (bs:List UInt8) (w:World) (hs:Sl w (some ad) n c (b0 :: b1 :: b2 :: b3 :: bs)) (T:Nat) (hT:256*b0.toNat+b1.toNat=T) (h0:¬ (1≤T∧T≤8192)) :
 Calls Tryz.prog 147 #[.slice (some ad) n c] w fun e w'=>e=.returned (.tuple #[.slice none 0 0,.int .i64 0,.int .i64 22])∧Below w.heap.size w w':=by
 obtain ⟨h4,c0,c1,c2,c3⟩:=J3 hs
 have hat:∀ w,(Instr.arrayAt 229 (.slice (some ad) n c)).run Tryz.prog w=.ok (.pointer (some ad)) w:=fun w=>run_arrayAt w 229 _ 4 _ n c Tryz.underlying229 h4
 have h4':((n:Int) < 4)=False:=by simp;omega
 have ht:=Za7 b0.toNat b1.toNat b0.toNat_lt b1.toNat_lt
 rw [hT] at ht
 have hTb:T < 65536:=by have:=b0.toNat_lt;have:=b1.toNat_lt;omega
 have HS:=hid hs
 have HT:=hid hT
 have hbw:Below w.heap.size w (w.alloc (.cells #[.int .u8 (b0.toNat:Nat),.int .u8 (b1.toNat:Nat),.int .u8 (b2.toNat:Nat),.int .u8 (b3.toNat:Nat)] 229)):=(Below.refl _ _).alloc (Nat.le_refl _) _
 have hw:=Whole.made w 229 #[.int .u8 (b0.toNat:Nat),.int .u8 (b1.toNat:Nat),.int .u8 (b2.toNat:Nat),.int .u8 (b3.toNat:Nat)]
 have HBW:=hid hbw
 have HW:=hid hw
 clear hT hs hbw hw
 have hz:sizeN (T:Int)=0:=by unfold sizeN;rw [if_neg (by omega)]
 go_enter Tryz.func147,Tryz.ntmps147
 go_wp2_with (fail)
 refine (Yo _ _ (by omega) (by omega)).mono ?_
 rintro e w1 ⟨rfl,rfl⟩
 go_wp2_with (fail)
 clear c0 c1 c2 c3
 refine Yc (by kernel_rfl) (by kernel_rfl) ?_
 refine q_op (.int .i64 0) (by rfl) ?_ ?_
 ·intro w' hC;clear hC;go_simp
 simp only [Pu]
 refine q_op (.bool true) (by rfl) ?_ ?_
 ·intro w' hC;clear hC;go_simp
 simp only [Pu]
 refine q_op (.bool true) (by rfl) ?_ ?_
 ·intro w' hC;clear hC;go_simp
 simp only [Pu]
 refine Zl4 (by rfl) ?_
 simp only [Pu]
 refine Zl4 (by rfl) ?_
 simp only [Pu]
 refine Zl4 (by rfl) ?_
 simp only [Pu]
 refine Zl4 (by rfl) ?_
 simp only [Pu]
 refine q_op (.bool true) (by rfl) ?_ ?_
 ·intro w' hC;clear hC;go_simp
 simp only [Pu]
 refine wpQuiet_nil ?_
 intro w6 hC
 have HC6:=hid hC
 clear hC
 go_wp2_with (fail)
 go_ret3
 exact ⟨rfl,HBW.out.trans (HC6.out.mono (by simp))⟩
theorem Zjv (ad:Addr) (n c:Nat) (b0 b1 b2 b3:UInt8) (bs:List UInt8) (w:World) (hs:Sl w (some ad) n c (b0 :: b1 :: b2 :: b3 :: bs)) (T:Nat) (hT:256*b0.toNat+b1.toNat=T) (h1:1≤T) (h2:T≤8192) (hm:[b0,b1,b2,b3]≠headB T) :
 Calls Tryz.prog 147 #[.slice (some ad) n c] w fun e w'=>e=.returned (.tuple #[.slice none 0 0,.int .i64 0,.int .i64 22])∧Below w.heap.size w w':=by
 obtain ⟨h4,c0,c1,c2,c3⟩:=J3 hs
 have hat:∀ w,(Instr.arrayAt 229 (.slice (some ad) n c)).run Tryz.prog w=.ok (.pointer (some ad)) w:=fun w=>run_arrayAt w 229 _ 4 _ n c Tryz.underlying229 h4
 have h4':((n:Int) < 4)=False:=by simp;omega
 have ht:=Za7 b0.toNat b1.toNat b0.toNat_lt b1.toNat_lt
 rw [hT] at ht
 have hTb:T < 65536:=by have:=b0.toNat_lt;have:=b1.toNat_lt;omega
 have HS:=hid hs
 have HT:=hid hT
 have hbw:Below w.heap.size w (w.alloc (.cells #[.int .u8 (b0.toNat:Nat),.int .u8 (b1.toNat:Nat),.int .u8 (b2.toNat:Nat),.int .u8 (b3.toNat:Nat)] 229)):=(Below.refl _ _).alloc (Nat.le_refl _) _
 have hw:=Whole.made w 229 #[.int .u8 (b0.toNat:Nat),.int .u8 (b1.toNat:Nat),.int .u8 (b2.toNat:Nat),.int .u8 (b3.toNat:Nat)]
 have HBW:=hid hbw
 have HW:=hid hw
 clear hT hs hbw hw
 have hz:sizeN (T:Int)=((T+8:Nat):Int):=by unfold sizeN;rw [if_pos (by omega)];rfl
 obtain ⟨z0,z1,z2,z3,hh⟩:=four (Zw T)
 have hN:∀ w,(Op.equalIn 10000 229 (.agg #[.int .u8 (b0.toNat:Nat),.int .u8 (b1.toNat:Nat),.int .u8 (b2.toNat:Nat),.int .u8 (b3.toNat:Nat)]) (.agg #[.int .u8 (z0.toNat:Nat),.int .u8 (z1.toNat:Nat),.int .u8 (z2.toNat:Nat),.int .u8 (z3.toNat:Nat)])).run Tryz.prog w=.ok false w:=fun w=>by rw [eq4,←hh];simp [hm]
 have hf:=fun w=>Zbv T w hTb
 rw [hh,Zbw] at hf
 have HF:=hid hf
 have HN:=hid hN
 have HH:=hid hh
 clear hf hN hh
 have hZ:((T+8:Nat):Int)≠0:=by omega
 generalize hZe:((T+8:Nat):Int)=Z at *
 have hZ0:(Z==0)=false:=by simpa using hZ
 go_enter Tryz.func147,Tryz.ntmps147
 go_wp2_with (fail)
 refine (Yo _ _ (by omega) (by omega)).mono ?_
 rintro e w1 ⟨rfl,rfl⟩
 go_wp2_with (fail)
 clear c0 c1 c2 c3
 refine Yc (by kernel_rfl) (by kernel_rfl) ?_
 refine q_op (.int .i64 Z) (by rfl) ?_ ?_
 ·intro w' hC;clear hC;go_simp
 simp only [Pu]
 refine q_op (.bool false) (by rfl) ?_ ?_
 ·intro w' hC;clear hC;go_simp
 simp only [Pu]
 refine q_op (.bool false) (by rfl) ?_ ?_
 ·intro w' hC;clear hC;go_simp
 simp only [Pu]
 refine q_op (.agg #[.int .u8 (b0.toNat:Nat),.int .u8 (b1.toNat:Nat),.int .u8 (b2.toNat:Nat),.int .u8 (b3.toNat:Nat)]) (by rfl) ?_ ?_
 ·intro w' hC;have c0:=(Grows.whole hC HW.out).cell 0;have c1:=(Grows.whole hC HW.out).cell 1;have c2:=(Grows.whole hC HW.out).cell 2;have c3:=(Grows.whole hC HW.out).cell 3;simp only [Gt] at c0 c1 c2 c3;clear hC;go_simp
 simp only [Pu]
 refine q_op (.int .i64 (T:Int)) (by rfl) ?_ ?_
 ·intro w' hC;clear hC;go_simp
 simp only [Pu]
 refine Zgm 191 #[.int .i64 (T:Int)] (.agg #[.int .u8 (z0.toNat:Nat),.int .u8 (z1.toNat:Nat),.int .u8 (z2.toNat:Nat),.int .u8 (z3.toNat:Nat)]) (by rfl) (by intro w' hC;clear hC;go_simp) ?_ ?_
 ·intro w' hC;refine HF.out w' |>.mono ?_;rintro e w2 ⟨he,hb2⟩;exact ⟨he,Grows.trans hC hb2⟩
 simp only [Pu]
 refine q_op (.bool true) (by rfl) ?_ ?_
 ·intro w' hC;have hN:=HN.out w';clear hC;go_simp
 simp only [Pu]
 refine q_op (.bool true) (by rfl) ?_ ?_
 ·intro w' hC;clear hC;go_simp
 simp only [Pu]
 refine wpQuiet_nil ?_
 intro w6 hC
 have HC6:=hid hC
 clear hC
 go_wp2_with (fail)
 go_ret3
 exact ⟨rfl,HBW.out.trans (HC6.out.mono (by simp))⟩
theorem Zpy (ad:Addr) (n c:Nat) (b0 b1 b2 b3:UInt8) (bs:List UInt8) (w:World) (hs:Sl w (some ad) n c (b0 :: b1 :: b2 :: b3 :: bs)) (T:Nat) (hT:256*b0.toNat+b1.toNat=T) (h1:1≤T) (h2:T≤8192) (hm:[b0,b1,b2,b3]=headB T) (h3:n < T+8) :
 Calls Tryz.prog 147 #[.slice (some ad) n c] w fun e w'=>e=.returned (.tuple #[.slice none 0 0,.int .i64 0,.int .i64 21])∧Below w.heap.size w w':=by
 obtain ⟨h4,c0,c1,c2,c3⟩:=J3 hs
 have hat:∀ w,(Instr.arrayAt 229 (.slice (some ad) n c)).run Tryz.prog w=.ok (.pointer (some ad)) w:=fun w=>run_arrayAt w 229 _ 4 _ n c Tryz.underlying229 h4
 have h4':((n:Int) < 4)=False:=by simp;omega
 have ht:=Za7 b0.toNat b1.toNat b0.toNat_lt b1.toNat_lt
 rw [hT] at ht
 have hTb:T < 65536:=by have:=b0.toNat_lt;have:=b1.toNat_lt;omega
 have HS:=hid hs
 have HT:=hid hT
 have hbw:Below w.heap.size w (w.alloc (.cells #[.int .u8 (b0.toNat:Nat),.int .u8 (b1.toNat:Nat),.int .u8 (b2.toNat:Nat),.int .u8 (b3.toNat:Nat)] 229)):=(Below.refl _ _).alloc (Nat.le_refl _) _
 have hw:=Whole.made w 229 #[.int .u8 (b0.toNat:Nat),.int .u8 (b1.toNat:Nat),.int .u8 (b2.toNat:Nat),.int .u8 (b3.toNat:Nat)]
 have HBW:=hid hbw
 have HW:=hid hw
 clear hT hs hbw hw
 have h3':((n:Int) < ((T+8:Nat):Int))=True:=by simp;omega
 have hz:sizeN (T:Int)=((T+8:Nat):Int):=by unfold sizeN;rw [if_pos (by omega)];rfl
 obtain ⟨z0,z1,z2,z3,hh⟩:=four (Zw T)
 have hN:∀ w,(Op.equalIn 10000 229 (.agg #[.int .u8 (b0.toNat:Nat),.int .u8 (b1.toNat:Nat),.int .u8 (b2.toNat:Nat),.int .u8 (b3.toNat:Nat)]) (.agg #[.int .u8 (z0.toNat:Nat),.int .u8 (z1.toNat:Nat),.int .u8 (z2.toNat:Nat),.int .u8 (z3.toNat:Nat)])).run Tryz.prog w=.ok true w:=fun w=>by rw [eq4,←hh];simp [hm]
 have hf:=fun w=>Zbv T w hTb
 rw [hh,Zbw] at hf
 have HF:=hid hf
 have HN:=hid hN
 have HH:=hid hh
 clear hf hN hh
 have hZ:((T+8:Nat):Int)≠0:=by omega
 generalize hZe:((T+8:Nat):Int)=Z at *
 have hZ0:(Z==0)=false:=by simpa using hZ
 go_enter Tryz.func147,Tryz.ntmps147
 go_wp2_with (fail)
 refine (Yo _ _ (by omega) (by omega)).mono ?_
 rintro e w1 ⟨rfl,rfl⟩
 go_wp2_with (fail)
 clear c0 c1 c2 c3
 refine Yc (by kernel_rfl) (by kernel_rfl) ?_
 refine q_op (.int .i64 Z) (by rfl) ?_ ?_
 ·intro w' hC;clear hC;go_simp
 simp only [Pu]
 refine q_op (.bool false) (by rfl) ?_ ?_
 ·intro w' hC;clear hC;go_simp
 simp only [Pu]
 refine q_op (.bool false) (by rfl) ?_ ?_
 ·intro w' hC;clear hC;go_simp
 simp only [Pu]
 refine q_op (.agg #[.int .u8 (b0.toNat:Nat),.int .u8 (b1.toNat:Nat),.int .u8 (b2.toNat:Nat),.int .u8 (b3.toNat:Nat)]) (by rfl) ?_ ?_
 ·intro w' hC;have c0:=(Grows.whole hC HW.out).cell 0;have c1:=(Grows.whole hC HW.out).cell 1;have c2:=(Grows.whole hC HW.out).cell 2;have c3:=(Grows.whole hC HW.out).cell 3;simp only [Gt] at c0 c1 c2 c3;clear hC;go_simp
 simp only [Pu]
 refine q_op (.int .i64 (T:Int)) (by rfl) ?_ ?_
 ·intro w' hC;clear hC;go_simp
 simp only [Pu]
 refine Zgm 191 #[.int .i64 (T:Int)] (.agg #[.int .u8 (z0.toNat:Nat),.int .u8 (z1.toNat:Nat),.int .u8 (z2.toNat:Nat),.int .u8 (z3.toNat:Nat)]) (by rfl) (by intro w' hC;clear hC;go_simp) ?_ ?_
 ·intro w' hC;refine HF.out w' |>.mono ?_;rintro e w2 ⟨he,hb2⟩;exact ⟨he,Grows.trans hC hb2⟩
 simp only [Pu]
 refine q_op (.bool false) (by rfl) ?_ ?_
 ·intro w' hC;have hN:=HN.out w';clear hC;go_simp
 simp only [Pu]
 refine q_op (.bool false) (by rfl) ?_ ?_
 ·intro w' hC;clear hC;go_simp
 simp only [Pu]
 refine wpQuiet_nil ?_
 intro w6 hC
 have HC6:=hid hC
 clear hC
 go_wp2_with (fail)
 go_ret3
 exact ⟨rfl,HBW.out.trans (HC6.out.mono (by simp))⟩
theorem Zpz (ad:Addr) (n c:Nat) (b0 b1 b2 b3:UInt8) (bs:List UInt8) (w:World) (hs:Sl w (some ad) n c (b0 :: b1 :: b2 :: b3 :: bs)) (T:Nat) (hT:256*b0.toNat+b1.toNat=T) (h1:1≤T) (h2:T≤8192) (hm:[b0,b1,b2,b3]=headB T) (h3:T+8≤n) (hx:((b0 :: b1 :: b2 :: b3 :: bs).drop (T+4)).take 4≠tailB ((b0 :: b1 :: b2 :: b3 :: bs).take (T+4))) :
 Calls Tryz.prog 147 #[.slice (some ad) n c] w fun e w'=>e=.returned (.tuple #[.slice none 0 0,.int .i64 ((T+8:Nat):Int),.int .i64 22])∧Below w.heap.size w w':=by
 obtain ⟨h4,c0,c1,c2,c3⟩:=J3 hs
 have hat:∀ w,(Instr.arrayAt 229 (.slice (some ad) n c)).run Tryz.prog w=.ok (.pointer (some ad)) w:=fun w=>run_arrayAt w 229 _ 4 _ n c Tryz.underlying229 h4
 have h4':((n:Int) < 4)=False:=by simp;omega
 have ht:=Za7 b0.toNat b1.toNat b0.toNat_lt b1.toNat_lt
 rw [hT] at ht
 have hTb:T < 65536:=by have:=b0.toNat_lt;have:=b1.toNat_lt;omega
 have HS:=hid hs
 have HT:=hid hT
 have hbw:Below w.heap.size w (w.alloc (.cells #[.int .u8 (b0.toNat:Nat),.int .u8 (b1.toNat:Nat),.int .u8 (b2.toNat:Nat),.int .u8 (b3.toNat:Nat)] 229)):=(Below.refl _ _).alloc (Nat.le_refl _) _
 have hw:=Whole.made w 229 #[.int .u8 (b0.toNat:Nat),.int .u8 (b1.toNat:Nat),.int .u8 (b2.toNat:Nat),.int .u8 (b3.toNat:Nat)]
 have HBW:=hid hbw
 have HW:=hid hw
 clear hT hs hbw hw
 have h3':((n:Int) < ((T+8:Nat):Int))=False:=by simp;omega
 obtain ⟨L,hL⟩:∃ L,L=T+4:=⟨_,rfl⟩
 have hLI:(4:Int)+(T:Int)=(L:Int):=by omega
 have hcap:=HS.out.cap
 have hlen:=HS.out.len
 have HLB:Hid ((0:Int)≤(L:Int)∧(L:Int)≤(n:Int)∧(n:Int)≤(c:Int)∧¬ c=L∧(L:Int)≤(c:Int)):=⟨by omega,by omega,by omega,by omega,by omega⟩
 obtain ⟨y0,y1,y2,y3,hy⟩:=four (l:=((b0 :: b1 :: b2 :: b3 :: bs).drop L).take 4) (by rw [List.length_take,List.length_drop,hlen];omega)
 obtain ⟨d0,d1,d2,d3,hd⟩:=four (Jh ((b0 :: b1 :: b2 :: b3 :: bs).take L))
 have hsl:=Sl.first HS.out (show L≤n by omega)
 have hft:=fun w' (hg:Grows w w')=>Zff (some ad) L c _ w' (hsl.grow hg) (by unfold maxLen;omega)
 rw [hd,Zbw] at hft
 have HFT:=hid hft
 have hN2:∀ w,(Op.equalIn 10000 229 (.agg #[.int .u8 (y0.toNat:Nat),.int .u8 (y1.toNat:Nat),.int .u8 (y2.toNat:Nat),.int .u8 (y3.toNat:Nat)]) (.agg #[.int .u8 (d0.toNat:Nat),.int .u8 (d1.toNat:Nat),.int .u8 (d2.toNat:Nat),.int .u8 (d3.toNat:Nat)])).run Tryz.prog w=.ok false w:=fun w=>by rw [eq4,←hd,←hy,hL,decide_eq_false hx]
 have HN2:=hid hN2
 have hce:=fun w' (hg:Grows w w')=>Zgz hg HS.out hy (by omega)
 have ha2:∀ w,(Instr.arrayAt 229 (.slice (some (ad.add L)) (n - L) (c - L))).run Tryz.prog w=.ok (.pointer (some (ad.add L))) w:=fun w=>run_arrayAt w 229 _ 4 _ (n - L) (c - L) Tryz.underlying229 (by omega)
 have HL:=hid hL
 have HLEN:=hid hlen
 clear hd hft hN2 hsl hcap hL hlen hy
 generalize hp:ad.add L=p at *
 have HP:=hid hp
 have HA2:=hid ha2
 have HCE:=hid hce
 clear hp ha2 hce
 have hz:sizeN (T:Int)=((T+8:Nat):Int):=by unfold sizeN;rw [if_pos (by omega)];rfl
 obtain ⟨z0,z1,z2,z3,hh⟩:=four (Zw T)
 have hN:∀ w,(Op.equalIn 10000 229 (.agg #[.int .u8 (b0.toNat:Nat),.int .u8 (b1.toNat:Nat),.int .u8 (b2.toNat:Nat),.int .u8 (b3.toNat:Nat)]) (.agg #[.int .u8 (z0.toNat:Nat),.int .u8 (z1.toNat:Nat),.int .u8 (z2.toNat:Nat),.int .u8 (z3.toNat:Nat)])).run Tryz.prog w=.ok true w:=fun w=>by rw [eq4,←hh];simp [hm]
 have hf:=fun w=>Zbv T w hTb
 rw [hh,Zbw] at hf
 have HF:=hid hf
 have HN:=hid hN
 have HH:=hid hh
 clear hf hN hh
 have hZ:((T+8:Nat):Int)≠0:=by omega
 generalize hZe:((T+8:Nat):Int)=Z at *
 have hZ0:(Z==0)=false:=by simpa using hZ
 go_enter Tryz.func147,Tryz.ntmps147
 go_wp2_with (fail)
 refine (Yo _ _ (by omega) (by omega)).mono ?_
 rintro e w1 ⟨rfl,rfl⟩
 go_wp2_with (fail)
 clear c0 c1 c2 c3
 refine Yc (by kernel_rfl) (by kernel_rfl) ?_
 refine q_op (.int .i64 Z) (by rfl) ?_ ?_
 ·intro w' hC;clear hC;go_simp
 simp only [Pu]
 refine q_op (.bool false) (by rfl) ?_ ?_
 ·intro w' hC;clear hC;go_simp
 simp only [Pu]
 refine q_op (.bool false) (by rfl) ?_ ?_
 ·intro w' hC;clear hC;go_simp
 simp only [Pu]
 refine q_op (.agg #[.int .u8 (b0.toNat:Nat),.int .u8 (b1.toNat:Nat),.int .u8 (b2.toNat:Nat),.int .u8 (b3.toNat:Nat)]) (by rfl) ?_ ?_
 ·intro w' hC;have c0:=(Grows.whole hC HW.out).cell 0;have c1:=(Grows.whole hC HW.out).cell 1;have c2:=(Grows.whole hC HW.out).cell 2;have c3:=(Grows.whole hC HW.out).cell 3;simp only [Gt] at c0 c1 c2 c3;clear hC;go_simp
 simp only [Pu]
 refine q_op (.int .i64 (T:Int)) (by rfl) ?_ ?_
 ·intro w' hC;clear hC;go_simp
 simp only [Pu]
 refine Zgm 191 #[.int .i64 (T:Int)] (.agg #[.int .u8 (z0.toNat:Nat),.int .u8 (z1.toNat:Nat),.int .u8 (z2.toNat:Nat),.int .u8 (z3.toNat:Nat)]) (by rfl) (by intro w' hC;clear hC;go_simp) ?_ ?_
 ·intro w' hC;refine HF.out w' |>.mono ?_;rintro e w2 ⟨he,hb2⟩;exact ⟨he,Grows.trans hC hb2⟩
 simp only [Pu]
 refine q_op (.bool false) (by rfl) ?_ ?_
 ·intro w' hC;have hN:=HN.out w';clear hC;go_simp
 simp only [Pu]
 refine q_op (.bool false) (by rfl) ?_ ?_
 ·intro w' hC;clear hC;go_simp
 simp only [Pu]
 refine wpQuiet_nil ?_
 intro w6 hC
 have HC6:=hid hC
 clear hC
 have hg6:Grows w w6:=HBW.out.trans (HC6.out.mono (by simp))
 have HG6:=hid hg6
 clear hg6
 go_wp2_with (fail)
 refine Yc (by kernel_rfl) (by kernel_rfl) ?_
 refine q_op (.slice (some ad) n c) (by rfl) ?_ ?_
 ·intro w' hC;clear hC;go_simp
 simp only [Pu]
 refine q_op (.int .i64 (L:Int)) (by rfl) ?_ ?_
 ·intro w' hC;clear hC;go_simp
 simp only [Pu]
 refine q_op (.slice (some p) (n - L) (c - L)) (by rfl) ?_ ?_
 ·intro w' hC;have hp:=HP.out;have hlb:=HLB.out;obtain ⟨l0,l1,l2,l3,l4⟩:=hlb;clear hC;go_simp
 simp only [Pu]
 refine q_op (.pointer (some p)) (by rfl) ?_ ?_
 ·intro w' hC;have ha2:=HA2.out w';clear hC;go_simp
 simp only [Pu]
 refine q_op (.agg #[.int .u8 (y0.toNat:Nat),.int .u8 (y1.toNat:Nat),.int .u8 (y2.toNat:Nat),.int .u8 (y3.toNat:Nat)]) (by rfl) ?_ ?_
 ·intro w' hC;have hce:=HCE.out w' (Grows.trans HG6.out hC);obtain ⟨c0,c1,c2,c3⟩:=hce;clear hC;go_simp
 simp only [Pu]
 refine q_op (.slice (some ad) n c) (by rfl) ?_ ?_
 ·intro w' hC;clear hC;go_simp
 simp only [Pu]
 refine q_op (.int .i64 (L:Int)) (by rfl) ?_ ?_
 ·intro w' hC;clear hC;go_simp
 simp only [Pu]
 refine q_op (.slice (some ad) L c) (by rfl) ?_ ?_
 ·intro w' hC;have hlb:=HLB.out;obtain ⟨l0,l1,l2,l3,l4⟩:=hlb;clear hC;go_simp
 simp only [Pu]
 refine Zgm 192 #[.slice (some ad) L c] (.agg #[.int .u8 (d0.toNat:Nat),.int .u8 (d1.toNat:Nat),.int .u8 (d2.toNat:Nat),.int .u8 (d3.toNat:Nat)]) (by rfl) (by intro w' hC;clear hC;go_simp) ?_ ?_
 ·intro w' hC;refine HFT.out w' (Grows.trans HG6.out hC) |>.mono ?_;rintro e w2 ⟨he,hb2⟩;exact ⟨he,Grows.trans hC hb2⟩
 simp only [Pu]
 refine q_op (.bool true) (by rfl) ?_ ?_
 ·intro w' hC;have hN:=HN2.out w';clear hC;go_simp
 simp only [Pu]
 refine wpQuiet_nil ?_
 intro w7 hC
 have HC7:=hid hC
 clear hC
 go_wp2_with (fail)
 go_ret3
 exact ⟨rfl,Grows.trans HG6.out HC7.out⟩
theorem Zsp (ad:Addr) (n c:Nat) (b0 b1 b2 b3:UInt8) (bs:List UInt8) (w:World) (hs:Sl w (some ad) n c (b0 :: b1 :: b2 :: b3 :: bs)) (T:Nat) (hT:256*b0.toNat+b1.toNat=T) (h1:1≤T) (h2:T≤8192) (hm:[b0,b1,b2,b3]=headB T) (h3:T+8≤n) (hreach:n≤140737488351232) (hx:((b0 :: b1 :: b2 :: b3 :: bs).drop (T+4)).take 4=tailB ((b0 :: b1 :: b2 :: b3 :: bs).take (T+4))) :
 Calls Tryz.prog 147 #[.slice (some ad) n c] w fun e w'=>∃ A' c',e=.returned (.tuple #[.slice A' T c',.int .i64 ((T+8:Nat):Int),.int .i64 0])∧w'.ownsRow w.heap.size 5 1 (.slice A' T c') T ((((b0 :: b1 :: b2 :: b3 :: bs).drop 4).take T).map byteV)∧Below w.heap.size w w':=by
 obtain ⟨h4,c0,c1,c2,c3⟩:=J3 hs
 have hat:∀ w,(Instr.arrayAt 229 (.slice (some ad) n c)).run Tryz.prog w=.ok (.pointer (some ad)) w:=fun w=>run_arrayAt w 229 _ 4 _ n c Tryz.underlying229 h4
 have h4':((n:Int) < 4)=False:=by simp;omega
 have ht:=Za7 b0.toNat b1.toNat b0.toNat_lt b1.toNat_lt
 rw [hT] at ht
 have hTb:T < 65536:=by have:=b0.toNat_lt;have:=b1.toNat_lt;omega
 have HS:=hid hs
 have HT:=hid hT
 have hbw:Below w.heap.size w (w.alloc (.cells #[.int .u8 (b0.toNat:Nat),.int .u8 (b1.toNat:Nat),.int .u8 (b2.toNat:Nat),.int .u8 (b3.toNat:Nat)] 229)):=(Below.refl _ _).alloc (Nat.le_refl _) _
 have hw:=Whole.made w 229 #[.int .u8 (b0.toNat:Nat),.int .u8 (b1.toNat:Nat),.int .u8 (b2.toNat:Nat),.int .u8 (b3.toNat:Nat)]
 have HBW:=hid hbw
 have HW:=hid hw
 clear hT hs hbw hw
 have h3':((n:Int) < ((T+8:Nat):Int))=False:=by simp;omega
 obtain ⟨L,hL⟩:∃ L,L=T+4:=⟨_,rfl⟩
 have hLI:(4:Int)+(T:Int)=(L:Int):=by omega
 have hcap:=HS.out.cap
 have hlen:=HS.out.len
 have HLB:Hid ((0:Int)≤(L:Int)∧(L:Int)≤(n:Int)∧(n:Int)≤(c:Int)∧¬ c=L∧(L:Int)≤(c:Int)):=⟨by omega,by omega,by omega,by omega,by omega⟩
 obtain ⟨y0,y1,y2,y3,hy⟩:=four (l:=((b0 :: b1 :: b2 :: b3 :: bs).drop L).take 4) (by rw [List.length_take,List.length_drop,hlen];omega)
 obtain ⟨d0,d1,d2,d3,hd⟩:=four (Jh ((b0 :: b1 :: b2 :: b3 :: bs).take L))
 have hsl:=Sl.first HS.out (show L≤n by omega)
 have hft:=fun w' (hg:Grows w w')=>Zff (some ad) L c _ w' (hsl.grow hg) (by unfold maxLen;omega)
 rw [hd,Zbw] at hft
 have HFT:=hid hft
 have hN2:∀ w,(Op.equalIn 10000 229 (.agg #[.int .u8 (y0.toNat:Nat),.int .u8 (y1.toNat:Nat),.int .u8 (y2.toNat:Nat),.int .u8 (y3.toNat:Nat)]) (.agg #[.int .u8 (d0.toNat:Nat),.int .u8 (d1.toNat:Nat),.int .u8 (d2.toNat:Nat),.int .u8 (d3.toNat:Nat)])).run Tryz.prog w=.ok true w:=fun w=>by rw [eq4,←hd,←hy,hL,decide_eq_true hx]
 have HN2:=hid hN2
 have hce:=fun w' (hg:Grows w w')=>Zgz hg HS.out hy (by omega)
 have ha2:∀ w,(Instr.arrayAt 229 (.slice (some (ad.add L)) (n - L) (c - L))).run Tryz.prog w=.ok (.pointer (some (ad.add L))) w:=fun w=>run_arrayAt w 229 _ 4 _ (n - L) (c - L) Tryz.underlying229 (by omega)
 have HL:=hid hL
 have HLEN:=hid hlen
 clear hd hft hN2 hsl hcap hL hlen hy
 generalize hp:ad.add L=p at *
 have HP:=hid hp
 have HA2:=hid ha2
 have HCE:=hid hce
 clear hp ha2 hce
 have hz:sizeN (T:Int)=((T+8:Nat):Int):=by unfold sizeN;rw [if_pos (by omega)];rfl
 obtain ⟨z0,z1,z2,z3,hh⟩:=four (Zw T)
 have hN:∀ w,(Op.equalIn 10000 229 (.agg #[.int .u8 (b0.toNat:Nat),.int .u8 (b1.toNat:Nat),.int .u8 (b2.toNat:Nat),.int .u8 (b3.toNat:Nat)]) (.agg #[.int .u8 (z0.toNat:Nat),.int .u8 (z1.toNat:Nat),.int .u8 (z2.toNat:Nat),.int .u8 (z3.toNat:Nat)])).run Tryz.prog w=.ok true w:=fun w=>by rw [eq4,←hh];simp [hm]
 have hf:=fun w=>Zbv T w hTb
 rw [hh,Zbw] at hf
 have HF:=hid hf
 have HN:=hid hN
 have HH:=hid hh
 clear hf hN hh
 have hZ:((T+8:Nat):Int)≠0:=by omega
 generalize hZe:((T+8:Nat):Int)=Z at *
 have hZ0:(Z==0)=false:=by simpa using hZ
 go_enter Tryz.func147,Tryz.ntmps147
 go_wp2_with (fail)
 refine (Yo _ _ (by omega) (by omega)).mono ?_
 rintro e w1 ⟨rfl,rfl⟩
 go_wp2_with (fail)
 clear c0 c1 c2 c3
 refine Yc (by kernel_rfl) (by kernel_rfl) ?_
 refine q_op (.int .i64 Z) (by rfl) ?_ ?_
 ·intro w' hC;clear hC;go_simp
 simp only [Pu]
 refine q_op (.bool false) (by rfl) ?_ ?_
 ·intro w' hC;clear hC;go_simp
 simp only [Pu]
 refine q_op (.bool false) (by rfl) ?_ ?_
 ·intro w' hC;clear hC;go_simp
 simp only [Pu]
 refine q_op (.agg #[.int .u8 (b0.toNat:Nat),.int .u8 (b1.toNat:Nat),.int .u8 (b2.toNat:Nat),.int .u8 (b3.toNat:Nat)]) (by rfl) ?_ ?_
 ·intro w' hC;have c0:=(Grows.whole hC HW.out).cell 0;have c1:=(Grows.whole hC HW.out).cell 1;have c2:=(Grows.whole hC HW.out).cell 2;have c3:=(Grows.whole hC HW.out).cell 3;simp only [Gt] at c0 c1 c2 c3;clear hC;go_simp
 simp only [Pu]
 refine q_op (.int .i64 (T:Int)) (by rfl) ?_ ?_
 ·intro w' hC;clear hC;go_simp
 simp only [Pu]
 refine Zgm 191 #[.int .i64 (T:Int)] (.agg #[.int .u8 (z0.toNat:Nat),.int .u8 (z1.toNat:Nat),.int .u8 (z2.toNat:Nat),.int .u8 (z3.toNat:Nat)]) (by rfl) (by intro w' hC;clear hC;go_simp) ?_ ?_
 ·intro w' hC;refine HF.out w' |>.mono ?_;rintro e w2 ⟨he,hb2⟩;exact ⟨he,Grows.trans hC hb2⟩
 simp only [Pu]
 refine q_op (.bool false) (by rfl) ?_ ?_
 ·intro w' hC;have hN:=HN.out w';clear hC;go_simp
 simp only [Pu]
 refine q_op (.bool false) (by rfl) ?_ ?_
 ·intro w' hC;clear hC;go_simp
 simp only [Pu]
 refine wpQuiet_nil ?_
 intro w6 hC
 have HC6:=hid hC
 clear hC
 have hg6:Grows w w6:=HBW.out.trans (HC6.out.mono (by simp))
 have HG6:=hid hg6
 clear hg6
 go_wp2_with (fail)
 refine Yc (by kernel_rfl) (by kernel_rfl) ?_
 refine q_op (.slice (some ad) n c) (by rfl) ?_ ?_
 ·intro w' hC;clear hC;go_simp
 simp only [Pu]
 refine q_op (.int .i64 (L:Int)) (by rfl) ?_ ?_
 ·intro w' hC;clear hC;go_simp
 simp only [Pu]
 refine q_op (.slice (some p) (n - L) (c - L)) (by rfl) ?_ ?_
 ·intro w' hC;have hp:=HP.out;have hlb:=HLB.out;obtain ⟨l0,l1,l2,l3,l4⟩:=hlb;clear hC;go_simp
 simp only [Pu]
 refine q_op (.pointer (some p)) (by rfl) ?_ ?_
 ·intro w' hC;have ha2:=HA2.out w';clear hC;go_simp
 simp only [Pu]
 refine q_op (.agg #[.int .u8 (y0.toNat:Nat),.int .u8 (y1.toNat:Nat),.int .u8 (y2.toNat:Nat),.int .u8 (y3.toNat:Nat)]) (by rfl) ?_ ?_
 ·intro w' hC;have hce:=HCE.out w' (Grows.trans HG6.out hC);obtain ⟨c0,c1,c2,c3⟩:=hce;clear hC;go_simp
 simp only [Pu]
 refine q_op (.slice (some ad) n c) (by rfl) ?_ ?_
 ·intro w' hC;clear hC;go_simp
 simp only [Pu]
 refine q_op (.int .i64 (L:Int)) (by rfl) ?_ ?_
 ·intro w' hC;clear hC;go_simp
 simp only [Pu]
 refine q_op (.slice (some ad) L c) (by rfl) ?_ ?_
 ·intro w' hC;have hlb:=HLB.out;obtain ⟨l0,l1,l2,l3,l4⟩:=hlb;clear hC;go_simp
 simp only [Pu]
 refine Zgm 192 #[.slice (some ad) L c] (.agg #[.int .u8 (d0.toNat:Nat),.int .u8 (d1.toNat:Nat),.int .u8 (d2.toNat:Nat),.int .u8 (d3.toNat:Nat)]) (by rfl) (by intro w' hC;clear hC;go_simp) ?_ ?_
 ·intro w' hC;refine HFT.out w' (Grows.trans HG6.out hC) |>.mono ?_;rintro e w2 ⟨he,hb2⟩;exact ⟨he,Grows.trans hC hb2⟩
 simp only [Pu]
 refine q_op (.bool false) (by rfl) ?_ ?_
 ·intro w' hC;have hN:=HN2.out w';clear hC;go_simp
 simp only [Pu]
 refine wpQuiet_nil ?_
 intro w7 hC
 have HC7:=hid hC
 clear hC
 obtain ⟨l0,l1,l2,l3,l4⟩:=HLB.out
 have l5:(4:Int)≤(L:Int):=by have:=HL.out;omega
 have l6:¬ c=4:=by have:=HL.out;omega
 go_wp2_with (fail)
 have hp4:=Sl.part (Sl.grow (Grows.trans HG6.out HC7.out) HS.out) (k:=4) (m:=L) (by omega) (by omega) l6
 rw [Addr.add_succ' ad 3] at hp4
 refine (Znp _ (L - 4) (c - 4) _ w7 hp4 (by omega) (by simp)).mono ?_
 rintro e w8 ⟨A8,c8,rfl,hs8,hb8⟩
 have HS8:=hid hs8
 have HB8:=hid hb8
 clear hs8 hb8 hp4
 go_wp2_with (fail)
 go_ret3
 have e4:L - 4=T:=by have:=HL.out;omega
 refine ⟨A8,c8,?_,?_,Grows.trans (Grows.trans HG6.out HC7.out) HB8.out⟩
 ·simp [e4]
 ·have h8:=Zh HS8.out (Grows.trans HG6.out HC7.out).size
  rw [e4] at h8
  rwa [show ((b0 :: b1 :: b2 :: b3 :: bs).drop 4).take T=((b0 :: b1 :: b2 :: b3 :: bs).take L).drop 4 by rw [List.drop_take,e4]]
theorem Jk (A:Option Addr) (n c:Nat) (bs:List UInt8) (w:World) (hs:Sl w A n c bs) (hn:n≤140737488351232) :
 Calls Tryz.prog 147 #[.slice A n c] w fun e w'=>∃ A' m c',e=.returned (.tuple #[.slice A' m c',.int .i64 ((Zi bs).2.1:Nat),.int .i64 ((Zi bs).2.2:Nat)])∧w'.ownsRow w.heap.size 5 1 (.slice A' m c') m ((Zi bs).1.map byteV)∧Below w.heap.size w w':=by
 have hl:=hs.len
 by_cases h4:n < 4
 ·refine (Zk0 A n c w h4).mono ?_
  rintro e w' ⟨rfl,hb⟩
  have hf:Zi bs=([],0,21):=by unfold Zi;rw [if_pos (by omega)]
  rw [hf]
  exact ⟨none,0,0,rfl,World.ownsRow_nil _ _ _ _,hb⟩
 ·match bs,hl with
  | [],hl=>simp at hl;omega
  | [_],hl=>simp at hl;omega
  | [_,_],hl=>simp at hl;omega
  | [_,_,_],hl=>simp at hl;omega
  | b0 :: b1 :: b2 :: b3 :: bs,hl =>
    obtain ⟨ad,rfl⟩:∃ ad,A=some ad:=by
     obtain ⟨ad,h,_⟩:=hs.bytes.spot (k:=0) (by omega)
     exact ⟨ad,h⟩
    have ht:toldN (b0 :: b1 :: b2 :: b3 :: bs)=256*b0.toNat+b1.toNat:=rfl
    generalize hT:256*b0.toNat+b1.toNat=T at *
    have hk:(b0 :: b1 :: b2 :: b3 :: bs).take 4=[b0,b1,b2,b3]:=rfl
    have h4':¬ (b0 :: b1 :: b2 :: b3 :: bs).length < 4:=by omega
    by_cases hr:1≤T∧T≤8192
    ·by_cases hm:[b0,b1,b2,b3]=headB T
     ·have hcond:¬ (¬ (1≤T∧T≤8192)∨[b0,b1,b2,b3]≠headB T):=fun h=>h.elim (fun h=>h hr) (fun h=>h hm)
      by_cases h8:n < T+8
      ·refine (Zpy ad n c b0 b1 b2 b3 bs w hs T hT hr.1 hr.2 hm h8).mono ?_
       rintro e w' ⟨rfl,hb⟩
       have hf:Zi (b0 :: b1 :: b2 :: b3 :: bs)=([],0,21):=by unfold Zi;rw [if_neg h4',ht,hk,if_neg hcond,if_pos (by omega)]
       rw [hf]
       exact ⟨none,0,0,rfl,World.ownsRow_nil _ _ _ _,hb⟩
      ·have h8':¬ (b0 :: b1 :: b2 :: b3 :: bs).length < T+8:=by omega
       by_cases hx:((b0 :: b1 :: b2 :: b3 :: bs).drop (T+4)).take 4=tailB ((b0 :: b1 :: b2 :: b3 :: bs).take (T+4))
       ·refine (Zsp ad n c b0 b1 b2 b3 bs w hs T hT hr.1 hr.2 hm (by omega) hn hx).mono ?_
        rintro e w' ⟨A',c',rfl,hs',hb⟩
        have hf:Zi (b0 :: b1 :: b2 :: b3 :: bs)=(((b0 :: b1 :: b2 :: b3 :: bs).drop 4).take T,T+8,0):=by
         unfold Zi;rw [if_neg h4',ht,hk,if_neg hcond,if_neg h8',if_neg (fun h=>h hx)]
        rw [hf]
        exact ⟨A',T,c',rfl,hs',hb⟩
       ·refine (Zpz ad n c b0 b1 b2 b3 bs w hs T hT hr.1 hr.2 hm (by omega) hx).mono ?_
        rintro e w' ⟨rfl,hb⟩
        have hf:Zi (b0 :: b1 :: b2 :: b3 :: bs)=([],T+8,22):=by unfold Zi;rw [if_neg h4',ht,hk,if_neg hcond,if_neg h8',if_pos hx]
        rw [hf]
        exact ⟨none,0,0,rfl,World.ownsRow_nil _ _ _ _,hb⟩
     ·refine (Zjv ad n c b0 b1 b2 b3 bs w hs T hT hr.1 hr.2 hm).mono ?_
      rintro e w' ⟨rfl,hb⟩
      have hf:Zi (b0 :: b1 :: b2 :: b3 :: bs)=([],0,22):=by unfold Zi;rw [if_neg h4',ht,hk,if_pos (.inr hm)]
      rw [hf]
      exact ⟨none,0,0,rfl,World.ownsRow_nil _ _ _ _,hb⟩
    ·refine (Znq ad n c b0 b1 b2 b3 bs w hs T hT hr).mono ?_
     rintro e w' ⟨rfl,hb⟩
     have hf:Zi (b0 :: b1 :: b2 :: b3 :: bs)=([],0,22):=by unfold Zi;rw [if_neg h4',ht,if_pos (.inl hr)]
     rw [hf]
     exact ⟨none,0,0,rfl,World.ownsRow_nil _ _ _ _,hb⟩
theorem Zpx (A:Option Addr) (n c:Nat) (bs:List UInt8) (w:World) (hs:Sl w A n c bs) (hn:n≤140737488351232) :
 Calls Tryz.prog 147 #[.slice A n c] w fun e w'=>∃ A' m c',e=.returned (.tuple #[.slice A' m c',.int .i64 ((Zi bs).2.1:Nat),.int .i64 ((Zi bs).2.2:Nat)])∧Sl w' A' m c' (Zi bs).1∧Below w.heap.size w w' :=
 (Jk A n c bs w hs hn).mono fun _ _ ⟨A',m,c',he,ho,hb⟩=>⟨A',m,c',he,Sl.owned ho,hb⟩
end Go.Proofs.YtkelafkbmnjpeaaGreat
