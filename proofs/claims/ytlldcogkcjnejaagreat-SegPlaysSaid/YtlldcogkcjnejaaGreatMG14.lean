import Derived.Test.YtlldcogkcjnejaaGreatMG08
import Derived.Test.YtlldcogkcjnejaaGreatMG13
namespace Go.Proofs.YtlldcogkcjnejaaGreat
open Go.RowKit
theorem Zkq (a b q i : Nat) : Jt (a ^^^ b) q i = Jt a q i ^^^ Jt b q i := by
 unfold Jt
 split
 ·rfl
 ·rw [show (256 : Nat) ^ (i - q) = 2 ^ (8 * (i - q)) by rw [Nat.pow_mul], Nat.xor_div_two_pow, show (256 : Nat) = 2 ^ 8 by rfl, Nat.xor_mod_two_pow]
theorem Zm3 (a b q : Nat) (bs : List UInt8) : flipT (a ^^^ b) q bs = flipT b q (flipT a q bs) := by
 refine List.ext_getElem (by rw [Zt, Zt, Zt]) fun i h1 h2 => ?_
 simp only [flipT, List.getElem_mapIdx]
 have hb := (bs[i]'(by rw [Zt] at h1; exact h1)).toNat_lt
 have ha : Jt a q i < 256 := by unfold Jt; split <;> omega
 have hx : (bs[i]'(by rw [Zt] at h1; exact h1)).toNat ^^^ Jt a q i < 2 ^ 8 := Nat.xor_lt_two_pow (by omega) (by omega)
 rw [UInt8.toNat_ofNat', Nat.mod_eq_of_lt hx, Zkq, Nat.xor_assoc]
theorem Zkr (k q i : Nat) : Jt (2 ^ k) q i = if i = q + k / 8 then 2 ^ (k % 8) else 0 := by
 unfold Jt
 split
 ·rename_i h
  rw [if_neg (by omega)]
 ·rename_i h
  rw [show (256 : Nat) ^ (i - q) = 2 ^ (8 * (i - q)) by rw [Nat.pow_mul]]
  by_cases h1 : 8 * (i - q) ≤ k
  ·rw [Nat.pow_div h1 (by omega)]
   by_cases h2 : k - 8 * (i - q) < 8
   ·have h3 : k - 8 * (i - q) = k % 8 := by omega
    rw [if_pos (by omega), h3, Nat.mod_eq_of_lt]
    calc 2 ^ (k % 8) < 2 ^ 8 := Nat.pow_lt_pow_right (by omega) (by omega)
     _ = 256 := rfl
   ·rw [if_neg (by omega)]
    obtain ⟨d, hd⟩ : ∃ d, k - 8 * (i - q) = 8 + d := ⟨k - 8 * (i - q) - 8, by omega⟩
    rw [hd, Nat.pow_add, show (2 : Nat) ^ 8 = 256 by rfl, Nat.mul_mod_right]
  ·have h3 : 2 ^ k < 2 ^ (8 * (i - q)) := Nat.pow_lt_pow_right (by omega) (by omega)
   rw [if_neg (by omega), Nat.div_eq_of_lt h3]
theorem Zm4 {k q p : Nat} {bs : List UInt8} (hp : p = q + k / 8) (h : p < bs.length) : flipT (2 ^ k) q bs = bs.set p (UInt8.ofNat ((bs.getD p 0).toNat ^^^ 2 ^ (k % 8))) := by
 subst hp
 refine List.ext_getElem (by rw [Zt, List.length_set]) fun i h1 h2 => ?_
 rw [Zt] at h1
 rw [List.getElem_set]
 simp only [flipT, List.getElem_mapIdx, Zkr]
 split
 ·rename_i hi
  subst hi
  rw [if_pos rfl, List.getD_eq_getElem?_getD, List.getElem?_eq_getElem h]
  rfl
 ·rename_i hi
  rw [if_neg (fun e => hi e.symm), Nat.xor_zero, Za2]
theorem Zrg {z i : Nat} (h : z / 2 ^ i % 2 = 1) : z % 2 ^ (i + 1) = (z % 2 ^ i) ^^^ 2 ^ i := by
 have hb : z.testBit i = true := by rw [Nat.testBit_eq_decide_div_mod_eq]; simpa using h
 refine Nat.eq_of_testBit_eq fun j => ?_
 rw [Nat.testBit_xor, Nat.testBit_mod_two_pow, Nat.testBit_mod_two_pow, Nat.testBit_two_pow]
 by_cases h1 : i = j
 ·subst h1
  simp [hb]
 ·by_cases h2 : j < i
  ·simp [h1, h2, show j < i + 1 by omega]
  ·simp [h1, h2, show ¬ j < i + 1 by omega]
theorem Zpg {z i : Nat} (h : z / 2 ^ i % 2 ≠ 1) : z % 2 ^ (i + 1) = z % 2 ^ i := by
 have hb : z.testBit i = false := by rw [Nat.testBit_eq_decide_div_mod_eq]; simpa using h
 refine Nat.eq_of_testBit_eq fun j => ?_
 rw [Nat.testBit_mod_two_pow, Nat.testBit_mod_two_pow]
 by_cases h1 : i = j
 ·subst h1
  simp [hb]
 ·by_cases h2 : j < i
  ·simp [h2, show j < i + 1 by omega]
  ·simp [h2, show ¬ j < i + 1 by omega]
def Yw (z y i : Nat) (bs : List UInt8) : List UInt8 := flipT (z % 2 ^ i * 2 ^ (y % 8)) (y / 8) bs
theorem Za3 (z y i : Nat) (bs : List UInt8) : (Yw z y i bs).length = bs.length := Zt _ _ _
theorem Zim (z y : Nat) (bs : List UInt8) : Yw z y 0 bs = bs := by
 unfold Yw
 rw [Nat.pow_zero, Nat.mod_one, Nat.zero_mul]
 refine List.ext_getElem (Zt _ _ _) fun i h1 h2 => ?_
 simp only [flipT, List.getElem_mapIdx, Jt, Nat.zero_div, Nat.zero_mod, ite_self, Nat.xor_zero, Za2]
theorem Zin {z y i : Nat} {bs : List UInt8} (h : z / 2 ^ i % 2 ≠ 1) : Yw z y (i + 1) bs = Yw z y i bs := by
 unfold Yw
 rw [Zpg h]
theorem Zks {z y i p : Nat} {bs : List UInt8} (h : z / 2 ^ i % 2 = 1) (hp : p = (y + i) / 8) (hl : p < bs.length) :
 Yw z y (i + 1) bs = (Yw z y i bs).set p (UInt8.ofNat (((Yw z y i bs).getD p 0).toNat ^^^ 2 ^ ((y + i) % 8))) := by
 unfold Yw
 have e : (z % 2 ^ i ^^^ 2 ^ i) * 2 ^ (y % 8) = (z % 2 ^ i * 2 ^ (y % 8)) ^^^ 2 ^ (i + y % 8) := by
  rw [← Nat.shiftLeft_eq, Nat.shiftLeft_xor_distrib, Nat.shiftLeft_eq, Nat.shiftLeft_eq, ← Nat.pow_add]
 rw [Zrg h, e, Zm3, Zm4 (p := p) (by omega) (by rw [Zt]; exact hl), show (i + y % 8) % 8 = (y + i) % 8 by omega]
theorem Zkt {z y : Nat} {bs : List UInt8} (hz : z < 4294967296) : Yw z y 32 bs = flipT (z * 2 ^ (y % 8)) (y / 8) bs := by
 unfold Yw
 rw [Nat.mod_eq_of_lt (show z < 2 ^ 32 by omega)]
theorem Zio {z y i : Nat} {bs : List UInt8} (h : 8 * bs.length ≤ y + i) : Yw z y i bs = flipT (z * 2 ^ (y % 8)) (y / 8) bs := by
 refine List.ext_getElem (by rw [Za3, Zt]) fun j h1 h2 => ?_
 rw [Za3] at h1
 simp only [Yw, flipT, List.getElem_mapIdx]
 congr 2
 unfold Jt
 split
 ·rfl
 ·rename_i hj
  rw [← Nat.mul_mod_mul_right, ← Nat.pow_add, show (256 : Nat) ^ (j - y / 8) = 2 ^ (8 * (j - y / 8)) by rw [Nat.pow_mul]]
  refine Nat.eq_of_testBit_eq fun p => ?_
  rw [show (256 : Nat) = 2 ^ 8 by rfl, Nat.testBit_mod_two_pow, Nat.testBit_mod_two_pow, Nat.testBit_div_two_pow, Nat.testBit_div_two_pow, Nat.testBit_mod_two_pow]
  by_cases hp : p < 8
  ·rw [decide_eq_true (show p + 8 * (j - y / 8) < i + y % 8 by omega), Bool.true_and]
  ·rw [decide_eq_false hp, Bool.false_and, Bool.false_and]
open Go.Lib (hid)
def Bk (w : World) (g : Nat) (bs : List UInt8) : Prop := ∃ cur lo hi, w.heap[g]? = some (.cells cur 5 (lo, hi)) ∧ bs.length ≤ lo ∧ cur.toList.take bs.length = bs.map byteV
theorem Bk.at {w : World} {g : Nat} {bs : List UInt8} (h : Bk w g bs) {j : Nat} (hj : j < bs.length) : w.cell? ⟨g, j, none⟩ = some (byteV (bs.getD j 0)) ∧ w.frozen? ⟨g, j, none⟩ = false := by
 obtain ⟨cur, lo, hi, h1, h2, h3⟩ := h
 refine ⟨?_, ?_⟩
 ·rw [cell_of_row w g j cur _ _ h1]
  have h4 := congrArg (fun l : List Value => l[j]?) h3
  simp only [List.getElem?_take, if_pos hj, List.getElem?_map, Array.getElem?_toList] at h4
  rw [h4, List.getD_eq_getElem?_getD, List.getElem?_eq_getElem hj]
  rfl
 ·simp only [World.frozen?, h1]
  rw [decide_eq_false (by omega), Bool.false_and]
theorem Bk.put {w : World} {g : Nat} {bs : List UInt8} (h : Bk w g bs) {j : Nat} (b : UInt8) : Bk (w.setCell ⟨g, j, none⟩ (byteV b)) g (bs.set j b) := by
 obtain ⟨cur, lo, hi, h1, h2, h3⟩ := h
 refine ⟨cur.setIfInBounds j (byteV b), lo, hi, by simp [World.setCell, Array.getElem?_modify, h1], by rw [List.length_set]; exact h2, ?_⟩
 rw [List.length_set, Array.toList_setIfInBounds, List.take_set, h3, List.map_set]
theorem Bk.lt {w : World} {g : Nat} {bs : List UInt8} (h : Bk w g bs) : g < w.heap.size := by
 obtain ⟨cur, lo, hi, h1, _⟩ := h
 exact (Array.getElem?_eq_some_iff.1 h1).1
theorem Bk.grow {w w' : World} {g : Nat} {bs : List UInt8} (h : Bk w g bs) (hg : Grows w w') : Bk w' g bs := by
 have hl := h.lt
 obtain ⟨cur, lo, hi, h1, h2, h3⟩ := h
 exact ⟨cur, lo, hi, (hg.block g hl).trans h1, h2, h3⟩
theorem Bk.sl {w : World} {g c : Nat} {bs : List UInt8} (h : Bk w g bs) (hc : bs.length ≤ c) : Sl w (some ⟨g, 0, none⟩) bs.length c bs := by
 refine ⟨⟨by simp, fun k v hk => ⟨_, rfl, h.lt, ?_⟩⟩, hc, fun h => by cases h⟩
 have hkl : k < bs.length := by
  have := (List.getElem?_eq_some_iff.1 hk).1
  simpa using this
 rw [show (⟨g, 0, none⟩ : Addr).add k = ⟨g, k, none⟩ by unfold Addr.add; split <;> simp_all, (h.at hkl).1]
 rw [List.getElem?_map, List.getElem?_eq_getElem hkl] at hk
 rw [← hk, List.getD_eq_getElem?_getD, List.getElem?_eq_getElem hkl]
 rfl
theorem Zkp (w : World) (L : List UInt8) : ∃ c w', (convert 9 31 (.string ⟨L.toArray⟩)).run Tryz.prog w = .ok (.slice (some ⟨w.heap.size, 0, none⟩) L.length c) w' ∧ Bk w' w.heap.size L ∧ L.length ≤ c ∧ Grows w w' := by
 refine ⟨_, _, by rw [run_bytes_of_string w 9 31 5 ⟨L.toArray⟩ Tryz.underlying9 Tryz.underlying31 Tryz.underlying5, Zaz], ⟨_, _, _, World.alloc_heap_new w.drew _, ?_, ?_⟩, grownCap_ge w _ _ _, Grows.trans (Ze w) (Zb _ _)⟩
 ·unfold bytesRow
  rw [Array.size_append, Array.size_map]
  show L.length ≤ L.toArray.size + _
  rw [List.size_toArray]
  omega
 ·unfold bytesRow
  rw [Array.toList_append, Array.toList_map]
  show (L.map _ ++ _).take L.length = _
  rw [List.take_left' (by simp)]
  rfl
theorem Zr2 (z k : Nat) : (((z : Int) / 2 ^ k).tmod 2 == 1) = decide (z / 2 ^ k % 2 = 1) := by
 have h : ((z : Int) / 2 ^ k) = ((z / 2 ^ k : Nat) : Int) := by push_cast; rfl
 rw [h]
 generalize z / 2 ^ k = u
 rw [Int.tmod_eq_emod_of_nonneg (by omega)]
 by_cases h : u % 2 = 1
 ·rw [decide_eq_true h, beq_iff_eq]; omega
 ·rw [decide_eq_false h, beq_eq_false_iff_ne]; omega
theorem Zpf (S : Nat) (h : S < 8) : IntKind.u8.wrap (1 * 2 ^ S) = ((2 ^ S : Nat) : Int) ∧ 2 ^ S < 256 := by
 match S, h with
 | 0, _ => exact ⟨by decide, by decide⟩
 | 1, _ => exact ⟨by decide, by decide⟩
 | 2, _ => exact ⟨by decide, by decide⟩
 | 3, _ => exact ⟨by decide, by decide⟩
 | 4, _ => exact ⟨by decide, by decide⟩
 | 5, _ => exact ⟨by decide, by decide⟩
 | 6, _ => exact ⟨by decide, by decide⟩
 | 7, _ => exact ⟨by decide, by decide⟩
theorem setB {z y i p : Nat} {bs : List UInt8} {b b' : UInt8} {w : World} {g : Nat} (h : z / 2 ^ i % 2 = 1) (hp : p = (y + i) / 8) (hl : p < bs.length) (hb : (Yw z y i bs).getD p 0 = b) (hb' : UInt8.ofNat (b.toNat ^^^ 2 ^ ((y + i) % 8)) = b') (hk : Bk w g (Yw z y i bs)) :
 Bk (w.setCell ⟨g, p, none⟩ (.int .u8 (b'.toNat : Nat))) g (Yw z y (i + 1) bs) := by
 subst hb hb'
 rw [Zks h hp hl]
 exact hk.put _
section
variable {w w' : World} {r : Nat} {own : Nat → Prop} {m m' : Rf} {fv nv kv pv fv' nv' kv' pv' : Value}
set_option maxHeartbeats 4000000 in
set_option maxRecDepth 100000 in
theorem Zm2 (w : World) (n : Nm) (y0 : Int) (z : Nat) (h : RfAt w r own m fv nv kv pv) (hF : RfFit m) (hy0 : -9223372036854775808 ≤ y0 ∧ y0 ≤ 9223372036854775807) (hz : z < 4294967296) :
 Calls Tryz.prog 33 #[.pointer (some ⟨r, 0, none⟩), .string ⟨n.toArray⟩, .int .i64 y0, .int .u32 (z : Int)] w fun e w' => e = .returned (.bool (m.flip n y0 z).2) ∧ RfTo w r own w' (m.flip n y0 z).1 := by
 obtain ⟨A, c, hA, hrw⟩ := h.namesRw
 have c2 : w.cell? ⟨r, 2, none⟩ = some (.slice A m.names.length c) := by rw [← hA]; exact h.cell 2
 have HFI := hid (Yu w (c := c) n hrw (by have := hF.names; omega))
 have H := hid h
 unfold Rf.flip
 rcases Jm (n := n) (l := m.names) with ⟨hf, hx'⟩ | ⟨i, f, hf, hx', hi⟩
 ·rw [hf]
  dsimp only
  rw [hx'] at HFI
  clear h hA hrw hf hx' hF
  go_enter Tryz.func33, Tryz.ntmps33
  go_wp2_with (fail)
  refine HFI.out.mono ?_
  rintro e w1 ⟨rfl, rfl⟩
  go_wp2_with (fail)
  go_ret
  exact ⟨rfl, RfTo.same H.out (Zc.refl _ _) H.out.ro⟩
 rw [hf]
 dsimp only
 obtain ⟨gn, cn, gf, cf, v, hn, hfv, hv, hil, hfl, hc⟩ := h.found hF hi
 rw [hx'] at HFI
 have HC := hid hc
 rw [hA] at hn
 injection hn with hn1 _ hn2
 subst hn1 hn2
 rw [hfv, hA] at HC hc
 have hvb := (hF.bytes v (List.mem_of_getElem? hv)).1
 have hml : m.len f = v.bytes.length := by unfold Rf.len; rw [Zbh hv]
 rw [hml, Zbh hv]
 have hiI : (i : Int) < (m.names.length : Int) := by omega
 have hfI : (f : Int) < (m.files.length : Int) := by omega
 have hi0 : ¬ ((i : Int) < 0) := by omega
 have hi1 : (0 : Int) ≤ (i : Int) := by omega
 have hf0 : (0 : Int) ≤ (f : Int) := by omega
 have hset : ∀ w6, Grows w w6 → ∀ u, _ := fun w6 hg u => Zfq w6 f u (h.grow hg) hF.files hfl
 have HSET := hid hset
 obtain ⟨cc, w6, hrun, hbk, hcc, hg6⟩ := Zkp w v.bytes
 obtain ⟨bs, hbs⟩ : ∃ bs, v.bytes = bs := ⟨_, rfl⟩
 obtain ⟨kp, hkp⟩ : ∃ kp, v.kept = kp := ⟨_, rfl⟩
 rw [hbs] at HC hc hvb hrun hbk hcc ⊢
 rw [hkp] at HC hc ⊢
 obtain ⟨s, hsb⟩ : ∃ s : ByteArray, (⟨bs.toArray⟩ : ByteArray) = s := ⟨_, rfl⟩
 obtain ⟨vl, hvl⟩ : ∃ vl, bs.length = vl := ⟨_, rfl⟩
 obtain ⟨g, hge⟩ : ∃ g, w.heap.size = g := ⟨_, rfl⟩
 rw [hsb] at HC hc hrun
 rw [hvl] at hvb hcc hrun ⊢
 rw [hge] at hrun hbk
 have HB := hid (And.intro hbk (And.intro hg6 (And.intro hcc hge)))
 have HVL := hid hvl
 obtain ⟨nl, hnl⟩ : ∃ nl, m.names.length = nl := ⟨_, rfl⟩
 obtain ⟨fl, hfl'⟩ : ∃ fl, m.files.length = fl := ⟨_, rfl⟩
 rw [hnl] at c2 hiI HC hc HFI
 rw [hfl'] at HC hc hfI
 obtain ⟨z1, z2, z3, z4, z5⟩ := hc w (Grows.refl _)
 have hw8 : IntKind.i64.wrap (8 * (vl : Int)) = 8 * (vl : Int) := IntWalk.i64_in _ (by omega)
 clear h hA hrw hf hx' hF hi hv hc hfv hil hfl hsb hml hbs hvl hset hbk hg6 hcc hge hkp hnl hfl' z5
 by_cases hb1 : y0 < 0
 ·rw [if_pos (.inl hb1)]
  go_enter Tryz.func33, Tryz.ntmps33
  go_wp2_with (fail)
  refine HFI.out.mono ?_
  rintro e w1 ⟨rfl, rfl⟩
  go_wp2_with (fail)
  go_ret
  exact ⟨rfl, RfTo.same (H.out.grow HB.out.2.1) (Zc.grows HB.out.2.1) H.out.ro⟩
 by_cases hb2 : 8 * (vl : Int) ≤ y0
 ·rw [if_pos (.inr hb2)]
  go_enter Tryz.func33, Tryz.ntmps33
  go_wp2_with (fail)
  refine HFI.out.mono ?_
  rintro e w1 ⟨rfl, rfl⟩
  go_wp2_with (fail)
  go_ret
  exact ⟨rfl, RfTo.same (H.out.grow HB.out.2.1) (Zc.grows HB.out.2.1) H.out.ro⟩
 rw [if_neg (by omega)]
 obtain ⟨y, rfl⟩ := Int.eq_ofNat_of_zero_le (show 0 ≤ y0 by omega)
 rw [Int.toNat_natCast]
 clear hy0
 go_enter Tryz.func33, Tryz.ntmps33
 go_wp2_with (fail)
 refine HFI.out.mono ?_
 rintro e w1 ⟨rfl, rfl⟩
 go_wp2_with (fail)
 go_loopw [12] (fun vi wr => ∃ k : Nat, k ≤ 32 ∧ vi = .int .i64 (k : Nat) ∧ Hid (Bk wr g (Yw z y k bs)) ∧ Hid (Grows w wr)) (fun i _ => 32 - (intOf i).toNat)
 case atStart => exact ⟨0, by omega, rfl, hid (by rw [Zim]; exact HB.out.1), hid HB.out.2.1⟩
 case round =>
  obtain ⟨k, hk, rfl, HK, HG⟩ := hrel
  clear z1 z2 z3 z4
  have hwk : IntKind.i64.wrap ((y : Int) + (k : Int)) = (y : Int) + (k : Int) := IntWalk.i64_in _ (by omega)
  by_cases hk32 : k < 32 ∧ y + k < 8 * vl
  ·obtain ⟨hk1, hk2⟩ := hk32
   have hkI : (k : Int) < 32 := by omega
   have hkI2 : (y : Int) + (k : Int) < 8 * (vl : Int) := by omega
   have hk0 : (0 : Int) ≤ (k : Int) := by omega
   have hwk1 : IntKind.i64.wrap ((k : Int) + 1) = (k : Int) + 1 := IntWalk.i64_in _ (by omega)
   have hbi := Zr2 z k
   by_cases hbit : z / 2 ^ k % 2 = 1
   ·rw [decide_eq_true hbit] at hbi
    obtain ⟨P, hP⟩ : ∃ P, (y + k) / 8 = P := ⟨_, rfl⟩
    obtain ⟨S, hS⟩ : ∃ S, (y + k) % 8 = S := ⟨_, rfl⟩
    have hq2 : ((y : Int) + (k : Int)).tdiv 8 = (P : Int) := by rw [Int.tdiv_eq_ediv_of_nonneg (by omega)]; omega
    have hr2 : ((y : Int) + (k : Int)).tmod 8 = (S : Int) := by rw [Int.tmod_eq_emod_of_nonneg (by omega)]; omega
    have hPl : P < vl := by omega
    have hPI : (P : Int) < (vl : Int) := by omega
    have hP0 : (0 : Int) ≤ (P : Int) := by omega
    have hS0 : (0 : Int) ≤ (S : Int) := by omega
    have hS8 : (S : Int) < 8 := by omega
    have hwP : IntKind.i64.wrap (P : Int) = P := IntWalk.i64_in _ (by omega)
    have hwS : IntKind.i64.wrap (S : Int) = S := IntWalk.i64_in _ (by omega)
    have hE := Zpf S (by omega)
    obtain ⟨E, hEe⟩ : ∃ E, 2 ^ S = E := ⟨_, rfl⟩
    rw [hEe] at hE
    have hfl := Za3 z y k bs
    obtain ⟨b1, hb1⟩ : ∃ b1, (Yw z y k bs).getD P 0 = b1 := ⟨_, rfl⟩
    obtain ⟨b2, hb2⟩ : ∃ b2, UInt8.ofNat (b1.toNat ^^^ E) = b2 := ⟨_, rfl⟩
    have hxb := Zjn b1 E hE.2
    rw [hb2] at hxb
    have hat : ∀ w', Grows wr w' → w'.cell? ⟨g, P, none⟩ = some (.int .u8 (b1.toNat : Nat)) ∧ w'.frozen? ⟨g, P, none⟩ = false := fun w' hg => by
     have := (HK.out.grow hg).at (j := P) (by rw [hfl, HVL.out]; exact hPl)
     rw [hb1] at this
     exact this
    have HAT := hid hat
    have HSB := hid (show ∀ w', Grows wr w' → Bk (w'.setCell ⟨g, P, none⟩ (.int .u8 (b2.toNat : Nat))) g (Yw z y (k + 1) bs) from fun w' hg => setB (i := k) hbit hP.symm (by rw [HVL.out]; exact hPl) hb1 (by rw [hS, hEe]; exact hb2) (HK.out.grow hg))
    have hw1 : IntKind.u8.wrap (1 * 2 ^ S) = (E : Int) := by rw [← hE.1]
    have hw1' : IntKind.u8.wrap (2 ^ S) = (E : Int) := by rw [← hE.1, Int.one_mul]
    have HE := hid (And.intro hw1 hw1')
    have HXB := hid hxb
    have HK1 := hid hk1
    have HGW := hid (show ∀ w', Grows wr w' → Grows w (w'.setCell ⟨g, P, none⟩ (.int .u8 (b2.toNat : Nat))) from fun w' hg => (Grows.trans HG.out hg).setCell (show w.heap.size ≤ g by rw [HB.out.2.2.2]; exact Nat.le_refl _) _)
    clear hP hS hEe hfl hb1 hb2 hat hbit hE hk1 hk2 hw1 hw1' hxb
    go_wp2_with (fail)
    refine Zh (E := Grows) 19 [Za (.slice (some ⟨g, 0, none⟩) vl cc), Za (.int .i64 (y : Int)), Za (.int .i64 (k : Int)), Za (.int .i64 ((y : Int) + (k : Int))), Za (.int .i64 (P : Int)), Za (.slice (some ⟨g, 0, none⟩) vl cc), Za (.int .i64 (y : Int)), Za (.int .i64 (k : Int)), Za (.int .i64 ((y : Int) + (k : Int))), Za (.int .i64 (P : Int)), Za (.pointer (some ⟨g, P, none⟩)), Za (.int .u8 (b1.toNat : Nat)), Za (.int .i64 (y : Int)), Za (.int .i64 (k : Int)), Za (.int .i64 ((y : Int) + (k : Int))), Za (.int .i64 (S : Int)), Za (.int .u8 (E : Int)), Za (.int .u8 (b2.toNat : Nat)), Za (.pointer (some ⟨g, P, none⟩))] mixed (by kernel_rfl) (fun _ _ _ => Grows.trans) (Ze _) ?_
    simp only [List.take_succ_cons, List.take_zero, List.drop_succ_cons, List.drop_zero]
    iterate 11
     refine f_val _ (by rfl) ?_ ?_
     ·intro w' hC; clear hC; go_simp
     simp only [Pu]
    refine f_val _ (by rfl) ?_ ?_
    ·intro w' hC; obtain ⟨z1, z2⟩ := HAT.out w' hC; clear hC; go_simp
    simp only [Pu]
    iterate 4
     refine f_val _ (by rfl) ?_ ?_
     ·intro w' hC; clear hC; go_simp
     simp only [Pu]
    refine f_val _ (by rfl) ?_ ?_
    ·intro w' hC; obtain ⟨z1, z2⟩ := HE.out; clear hC; go_simp
    simp only [Pu]
    refine f_val _ (by rfl) ?_ ?_
    ·intro w' hC; have z1 := HXB.out; clear hC; go_simp
    simp only [Pu]
    refine f_val _ (by rfl) ?_ ?_
    ·intro w' hC; clear hC; go_simp
    simp only [Pu]
    refine Zv ?_
    intro w7 hC hks
    have HCw7 := hid hC
    clear hC hks
    obtain ⟨c7, f7⟩ := HAT.out w7 HCw7.out
    go_wp2_with (fail)
    exact ⟨⟨k + 1, HK1.out, rfl, hid (HSB.out w7 HCw7.out), hid (HGW.out w7 HCw7.out)⟩, by simp only [intOf]; have := HK1.out; omega⟩
   ·rw [decide_eq_false hbit] at hbi
    have HN := hid (Zin (y := y) (bs := bs) hbit)
    clear hbit
    go_wp2_with (fail)
    exact ⟨⟨k + 1, hk1, rfl, hid (by rw [HN.out]; exact HK.out), HG⟩, by simp only [intOf]; omega⟩
  ·have hEnd : Yw z y k bs = flipT (z * 2 ^ (y % 8)) (y / 8) bs := by
    by_cases h32 : k < 32
    ·exact Zio (by rw [HVL.out]; omega)
    ·obtain rfl : k = 32 := by omega
     exact Zkt hz
   have hbk := HK.out
   rw [hEnd] at hbk
   have hfl := Zt (z * 2 ^ (y % 8)) (y / 8) bs
   obtain ⟨X, hX⟩ : ∃ X, flipT (z * 2 ^ (y % 8)) (y / 8) bs = X := ⟨_, rfl⟩
   rw [hX, HVL.out] at hfl
   rw [hX] at hbk
   have HX := hid hX
   obtain ⟨st, hst⟩ : ∃ s : ByteArray, (⟨X.toArray⟩ : ByteArray) = s := ⟨_, rfl⟩
   have HS2 := hid (show ∀ w', Grows wr w' → Calls Tryz.prog 75 #[.pointer (some ⟨r, 0, none⟩), .int .i64 (f : Int), .agg #[.string st, .int .i64 (kp : Int)]] w' fun e w'' => e = .returned (.tuple #[]) ∧ RfTo w' r own w'' (m.set f ⟨X, kp⟩) from fun w' hg => hst ▸ HSET.out w' (Grows.trans HG.out hg) ⟨X, kp⟩)
   have HSL := hid (show ∀ w', Grows wr w' → (convert 31 9 (.slice (some ⟨g, 0, none⟩) vl cc)).run Tryz.prog w' = .ok (.string st) w' from fun w' hg => by
    have := Zu ((hbk.grow hg).sl (c := cc) (by rw [hfl]; exact HB.out.2.2.1))
    rw [hfl, hst] at this
    exact this)
   have HC2 := hid (show ∀ w', Grows wr w' → w'.cell? ⟨r, 1, none⟩ = some (.slice (some ⟨gf, 0, none⟩) fl cf) ∧ w'.cell? ⟨gf, f * 2 + 1, none⟩ = some (.int .i64 (kp : Int)) from fun w' hg => ⟨(HC.out w' (Grows.trans HG.out hg)).1, (HC.out w' (Grows.trans HG.out hg)).2.2.2.2⟩)
   clear hEnd hbk hfl hX hst
   by_cases h32 : k < 32
   ·have hkI : (k : Int) < 32 := by omega
    have hkI2 : ¬ ((y : Int) + (k : Int) < 8 * (vl : Int)) := by omega
    clear hk32
    go_wp2_with (fail)
    refine Zh (E := Grows) 13 [Za (.pointer (some ⟨r, 0, none⟩)), Za (.int .i64 (f : Int)), Za (.slice (some ⟨g, 0, none⟩) vl cc), Za (.string st), Za (.pointer (some ⟨r, 0, none⟩)), Za (.pointer (some ⟨r, 0, none⟩)), Za (.pointer (some ⟨r, 1, none⟩)), Za (.slice (some ⟨gf, 0, none⟩) fl cf), Za (.int .i64 (f : Int)), Za (.pointer (some ⟨gf, f * 2, none⟩)), Za (.pointer (some ⟨gf, f * 2 + 1, none⟩)), Za (.int .i64 (kp : Int)), Za (.agg #[.string st, .int .i64 (kp : Int)])] mixed (by kernel_rfl) (fun _ _ _ => Grows.trans) (Ze _) ?_
    simp only [List.take_succ_cons, List.take_zero, List.drop_succ_cons, List.drop_zero]
    iterate 3
     refine f_val _ (by rfl) ?_ ?_
     ·intro w' hC; clear hC; go_simp
     simp only [Pu]
    refine f_val _ (by rfl) ?_ ?_
    ·intro w' hC; have z1 := HSL.out w' hC; clear hC; go_simp
    simp only [Pu]
    iterate 3
     refine f_val _ (by rfl) ?_ ?_
     ·intro w' hC; clear hC; go_simp
     simp only [Pu]
    refine f_val _ (by rfl) ?_ ?_
    ·intro w' hC; obtain ⟨z1, z2⟩ := HC2.out w' hC; clear hC; go_simp
    simp only [Pu]
    iterate 3
     refine f_val _ (by rfl) ?_ ?_
     ·intro w' hC; clear hC; go_simp
     simp only [Pu]
    refine f_val _ (by rfl) ?_ ?_
    ·intro w' hC; obtain ⟨z1, z2⟩ := HC2.out w' hC; clear hC; go_simp
    simp only [Pu]
    refine f_val _ (by rfl) ?_ ?_
    ·intro w' hC; clear hC; go_simp
    simp only [Pu]
    refine Zv ?_
    intro w8 hC hks
    have HCw8 := hid hC
    clear hC hks
    go_wp2_with (fail)
    refine (HS2.out w8 HCw8.out).mono ?_
    rintro e w9 ⟨rfl, hto⟩
    have HTO := hid hto
    clear hto
    go_wp2_with (fail)
    go_ret
    exact ⟨rfl, by rw [HX.out]; exact RfTo.behind H.out.ro (Zc.grows (Grows.trans HG.out HCw8.out)) HTO.out⟩
   ·have hkI : ¬ ((k : Int) < 32) := by omega
    clear hk32
    go_wp2_with (fail)
    refine Zh (E := Grows) 13 [Za (.pointer (some ⟨r, 0, none⟩)), Za (.int .i64 (f : Int)), Za (.slice (some ⟨g, 0, none⟩) vl cc), Za (.string st), Za (.pointer (some ⟨r, 0, none⟩)), Za (.pointer (some ⟨r, 0, none⟩)), Za (.pointer (some ⟨r, 1, none⟩)), Za (.slice (some ⟨gf, 0, none⟩) fl cf), Za (.int .i64 (f : Int)), Za (.pointer (some ⟨gf, f * 2, none⟩)), Za (.pointer (some ⟨gf, f * 2 + 1, none⟩)), Za (.int .i64 (kp : Int)), Za (.agg #[.string st, .int .i64 (kp : Int)])] mixed (by kernel_rfl) (fun _ _ _ => Grows.trans) (Ze _) ?_
    simp only [List.take_succ_cons, List.take_zero, List.drop_succ_cons, List.drop_zero]
    iterate 3
     refine f_val _ (by rfl) ?_ ?_
     ·intro w' hC; clear hC; go_simp
     simp only [Pu]
    refine f_val _ (by rfl) ?_ ?_
    ·intro w' hC; have z1 := HSL.out w' hC; clear hC; go_simp
    simp only [Pu]
    iterate 3
     refine f_val _ (by rfl) ?_ ?_
     ·intro w' hC; clear hC; go_simp
     simp only [Pu]
    refine f_val _ (by rfl) ?_ ?_
    ·intro w' hC; obtain ⟨z1, z2⟩ := HC2.out w' hC; clear hC; go_simp
    simp only [Pu]
    iterate 3
     refine f_val _ (by rfl) ?_ ?_
     ·intro w' hC; clear hC; go_simp
     simp only [Pu]
    refine f_val _ (by rfl) ?_ ?_
    ·intro w' hC; obtain ⟨z1, z2⟩ := HC2.out w' hC; clear hC; go_simp
    simp only [Pu]
    refine f_val _ (by rfl) ?_ ?_
    ·intro w' hC; clear hC; go_simp
    simp only [Pu]
    refine Zv ?_
    intro w8 hC hks
    have HCw8 := hid hC
    clear hC hks
    go_wp2_with (fail)
    refine (HS2.out w8 HCw8.out).mono ?_
    rintro e w9 ⟨rfl, hto⟩
    have HTO := hid hto
    clear hto
    go_wp2_with (fail)
    go_ret
    exact ⟨rfl, by rw [HX.out]; exact RfTo.behind H.out.ro (Zc.grows (Grows.trans HG.out HCw8.out)) HTO.out⟩
end
end Go.Proofs.YtlldcogkcjnejaaGreat
