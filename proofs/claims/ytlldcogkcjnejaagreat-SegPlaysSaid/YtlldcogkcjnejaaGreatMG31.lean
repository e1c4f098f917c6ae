import Derived.Test.YtlldcogkcjnejaaGreatMG29
import Derived.Test.YtlldcogkcjnejaaGreatMG27
import Derived.Test.YtlldcogkcjnejaaGreatRcRefPut
import Derived.Test.YtlldcogkcjnejaaGreatMG30
import Derived.Test.YtlldcogkcjnejaaGreatMG19
import Derived.Test.YtlldcogkcjnejaaGreatMG23
namespace Go.Proofs.YtlldcogkcjnejaaGreat
open Go.Lib (hid)
open Go.RowKit
def RTo3 (w0 w : World) (d r : Nat) (out : Nat → Prop) (mm : Dk) (K : Nat) (p : Dk × (Int × Int × Int)) (e : Ending) (w' : World) : Prop := e = .returned (.tuple #[.int .i64 p.2.1, .int .i64 p.2.2.1, .int .i64 p.2.2.2]) ∧ (∃ x', Two w0.heap.size w0 w' d r out mm x' ∧ G2 K p.1 x') ∧ Stays w0.heap.size out w w'
section
variable {d r K : Nat} {w0 w w' : World} {out : Nat → Prop} {m mm : Dk} {x : Rf}
set_option maxRecDepth 100000 in
set_option maxHeartbeats 8000000 in
theorem Zen (h : Two w0.heap.size w0 w d r out mm x) (hG : G2 K m x) (y : Rc) (hK : K + (frS y).length ≤ 100000) (n : Int) {LA : Option Addr} {ln lc : Nat} {BA : Option Addr} {bn bc : Nat} (hin : RcIn w0 LA ln lc BA bn bc y) :
 Calls Tryz.prog 21 #[.pointer (some ⟨r, 0, none⟩), .int .i64 n, .agg #[.int .i64 y.kind, .string ⟨y.key.toArray⟩, .int .i64 y.id, .int .i64 y.no, .int .i64 y.size, .slice LA ln lc, .slice BA bn bc]] w (RTo3 w0 w d r out mm (K + (frS y).length) (addP m n y)) := by
 have HN := hid (fun w' => Zbg w' n)
 have HPL := hid (Zej y)
 have HPB := hid (Je (b := putR y))
 have H := hid h
 have HGG := hid (And.intro hG hK)
 obtain ⟨nm, hnm⟩ : ∃ s, nmS n = s := ⟨_, rfl⟩
 have HZ := hid (fun w' (hg : Grows w w') => Zco (h.grow hg) hG (by omega) n)
 rw [hnm] at HN HZ
 obtain ⟨sv, hsv⟩ : ∃ q, (m.size nm).1 = q := ⟨_, rfl⟩
 rw [hsv] at HZ
 obtain ⟨⟨m2, v2⟩, hm2⟩ : ∃ q, m.append nm (frS y) = q := ⟨_, rfl⟩
 obtain ⟨res, hres⟩ : ∃ q, addP m n y = q := ⟨_, rfl⟩
 rw [hres]
 unfold addP at hres
 rw [hnm, hm2, hsv] at hres
 dsimp only at hres
 have HM2 := hid hm2
 obtain ⟨fl, hfl⟩ : ∃ k, (frS y).length = k := ⟨_, rfl⟩
 rw [hfl] at HGG hres ⊢
 have HFL := hid (show (putB (putR y)).length = fl from hfl)
 have HFR := hid (show frS y = putB (putR y) from rfl)
 obtain ⟨s, hs⟩ : ∃ s : ByteArray, (⟨nm.toArray⟩ : ByteArray) = s := ⟨_, rfl⟩
 rw [hs] at HN
 have HSN := hid hs
 obtain ⟨pr, hpr⟩ : ∃ p, putR y = p := ⟨_, rfl⟩
 have hlow := h.low
 clear hnm hsv hm2 hfl hs hG hK
 obtain ⟨kd, ks0, id, no, sz, ls, rb⟩ := y
 have hri := fun w' (hg : Grows w0 w') => Zc7 kd ks0 id no sz LA ln lc BA bn bc ls rb w' (hin.grow hg)
 have hpu := fun w' (hg : Grows w0 w') => Zb9 ks0 kd id no sz LA ln lc BA bn bc ls rb w' (hin.grow hg)
 simp only [hpr] at hpu
 rw [hpr] at HPL HPB HFL HFR
 dsimp only
 obtain ⟨ks, hks⟩ : ∃ s : ByteArray, (⟨ks0.toArray⟩ : ByteArray) = s := ⟨_, rfl⟩
 rw [hks] at hri hpu ⊢
 obtain ⟨rr, hrr⟩ : ∃ q, decide (Zx ⟨kd, ks0, id, no, sz, ls, rb⟩) = q := ⟨_, rfl⟩
 simp only [hrr] at hri
 have HRI := hid hri
 have HPU := hid hpu
 have HL := hid (show Grows w0 w from hlow)
 clear h hlow hri hpu hks hin hpr
 go_enter Tryz.func21, Tryz.ntmps21
 have hwm := Whole.made w 33 #[.int .i64 kd, .string ks, .int .i64 id, .int .i64 no, .int .i64 sz, .slice LA ln lc, .slice BA bn bc]
 have HG0 := hid (Zb w (.cells #[.int .i64 kd, .string ks, .int .i64 id, .int .i64 no, .int .i64 sz, .slice LA ln lc, .slice BA bn bc] 33))
 have c0 := hwm.cell 0
 have c1 := hwm.cell 1
 have c2 := hwm.cell 2
 have c3 := hwm.cell 3
 have c4 := hwm.cell 4
 have c5 := hwm.cell 5
 have c6 := hwm.cell 6
 simp only [Gt] at c0 c1 c2 c3 c4 c5 c6
 have HWM := hid hwm
 clear hwm
 go_wp2_with (fail)
 refine (HRI.out _ (Grows.trans HL.out HG0.out)).mono ?_
 rintro e w1 ⟨rfl, hg1⟩
 have HG1 := hid (Grows.trans HG0.out hg1)
 have hw1 := Grows.whole hg1 HWM.out
 clear c0 c1 c2 c3 c4 c5 c6 hg1 HG0 HWM HRI
 cases rr with
 | false =>
   rw [if_neg (of_decide_eq_false hrr)] at hres
   subst hres
   clear hrr hw1
   go_wp2_with (fail)
   go_ret3
   exact ⟨rfl, ⟨_, H.out.grow HG1.out, HGG.out.1.mono (by omega)⟩, Stays.grows HG1.out⟩
 | true =>
   rw [if_pos (of_decide_eq_true hrr)] at hres
   have HRES := hid hres
   clear hrr hres
   have c0 := hw1.cell 0
   have c1 := hw1.cell 1
   have c2 := hw1.cell 2
   have c3 := hw1.cell 3
   have c4 := hw1.cell 4
   have c5 := hw1.cell 5
   have c6 := hw1.cell 6
   simp only [Gt] at c0 c1 c2 c3 c4 c5 c6
   clear hw1
   go_wp2_with (fail)
   refine (HPU.out w1 (Grows.trans HL.out HG1.out)).mono ?_
   rintro e w2 ⟨A2, k2, e2, rfl, ho2, hb2⟩
   have HG2 := hid (Grows.trans HG1.out hb2)
   have hsl2 := Sl.owned ho2
   have HP := hid (Zcw A2 k2 e2 pr w2 hsl2 (by have := hsl2.len; have := HPL.out; unfold maxLen; omega))
   clear ho2 hb2 hsl2 HPU c0 c1 c2 c3 c4 c5 c6
   go_wp2_with (fail)
   refine HP.out.mono ?_
   rintro e w3 ⟨A3, k3, e3, rfl, ho3, hb3⟩
   obtain rfl : fl = k3 := by have := (Sl.owned ho3).len; have := HFL.out; omega
   have HB3 := hid hb3
   have HO3 := hid ho3
   have HG3 := hid (Grows.trans HG2.out hb3)
   clear ho3 hb3 HP
   go_wp2_with (fail)
   refine (HZ.out w3 HG3.out).mono ?_
   rintro e w4 ⟨rfl, hg4⟩
   have HG4 := hid hg4
   clear hg4
   go_wp2_with (fail)
   refine (HN.out w4).mono ?_
   rintro e w5 ⟨rfl, hg5⟩
   have HG45 := hid (Grows.trans HG4.out hg5)
   have HG5 := hid (Grows.trans HG3.out HG45.out)
   have hrlt : r < w2.heap.size := by obtain ⟨ro, fv, nv, kv, pv, k1⟩ := (H.out.grow HG2.out).rf; exact k1.top.lt
   have hap := Zgu (H.out.grow HG5.out) HGG.out.1 (by have := HGG.out.2; omega) nm ((Sl.owned HO3.out).grow HG45.out) (Zgs HO3.out hrlt) (by have := (Sl.owned HO3.out).len; have := HPB.out; omega)
   rw [← HFR.out, HM2.out, HSN.out, HFR.out, HFL.out] at hap
   have HAP := hid hap
   clear hg5 hrlt hap HG45 HG4 HO3 HB3 HG3 HG2
   go_wp2_with (fail)
   refine HAP.out.mono ?_
   rintro e w7 ⟨rfl, ⟨x7, ht7, hgg7⟩, hs7⟩
   have HT7 := hid (And.intro ht7 (And.intro hgg7 ((Stays.grows HG5.out).trans hs7)))
   clear ht7 hgg7 hs7 HAP
   by_cases hz2 : v2 = 0
   ·subst hz2
    obtain rfl : res = (m2, (sv, ((fl : Nat) : Int), 0)) := by have := HRES.out; rw [if_pos rfl] at this; exact this.symm
    go_wp2_with (fail)
    go_ret3
    exact ⟨rfl, ⟨_, HT7.out.1, HT7.out.2.1⟩, HT7.out.2.2⟩
   ·obtain rfl : res = (m2, (0, 0, v2)) := by have := HRES.out; rw [if_neg hz2] at this; exact this.symm
    have hzb : (v2 != 0) = true := by rw [bne_iff_ne]; exact hz2
    clear hz2
    go_wp2_with (fail)
    go_ret3
    exact ⟨rfl, ⟨_, HT7.out.1, HT7.out.2.1⟩, HT7.out.2.2⟩
end
def locsR : Nat → List UInt8 → List Lc
 | 0, _ => []
 | n + 1, xs => if 10 ≤ xs.length then (valB (xs.take 4), valB ((xs.drop 4).take 4), valB ((xs.drop 8).take 2)) :: locsR n (xs.drop 10) else []
def refP (k : Int) (xs : List UInt8) : Rc :=
 if k = 1 then (if 8 ≤ xs.length then ⟨1, [], valB (xs.take 6), valB ((xs.drop 6).take 2), 0, [], xs.drop 8⟩ else ⟨1, [], 0, 0, 0, [], []⟩)
 else if k = 4 then ⟨4, xs, 0, 0, 0, [], []⟩
 else match xs with
  | [] => ⟨k, [], 0, 0, 0, [], []⟩
  | c :: ys =>
    if ys.length < c.toNat then ⟨k, [], 0, 0, 0, [], []⟩
    else if k = 3 then ⟨k, ys.take c.toNat, 0, 0, 0, [], ys.drop c.toNat⟩
    else if 11 ≤ (ys.drop c.toNat).length then
     ⟨k, ys.take c.toNat, valB ((ys.drop c.toNat).take 6), 0, valB (((ys.drop c.toNat).drop 6).take 3), locsR (ys.drop c.toNat).length ((ys.drop c.toNat).drop 11), []⟩
    else ⟨k, ys.take c.toNat, 0, 0, 0, [], []⟩
theorem Jz (a b : List UInt8) (n : Nat) (h : a.length = n) : (a ++ b).take n = a := by subst h; simp
theorem Jl (a b : List UInt8) (n : Nat) (h : a.length = n) : (a ++ b).drop n = b := by subst h; simp
theorem locsR_all : ∀ (ls : List Lc) (n : Nat), ls.length ≤ n → (∀ l ∈ ls, LocOk l) → locsR n (locsB ls) = ls
 | [], 0, _, _ => rfl
 | [], n + 1, _, _ => by simp [locsR, locsB]
 | l :: ls, 0, h, _ => by simp at h
 | l :: ls, n + 1, h, hl => by
   obtain ⟨⟨h1, h2⟩, ⟨h3, h4⟩, h5, h6⟩ := hl l (by simp)
   have e0 : locsB (l :: ls) = numB l.1 4 ++ (numB l.2.1 4 ++ (numB l.2.2 2 ++ locsB ls)) := by simp [locsB, locB]
   have e4 : (locsB (l :: ls)).drop 4 = numB l.2.1 4 ++ (numB l.2.2 2 ++ locsB ls) := by rw [e0, Jl _ _ 4 (Zm _ _)]
   have e8 : (locsB (l :: ls)).drop 8 = numB l.2.2 2 ++ locsB ls := by
    rw [show 8 = 4 + 4 from rfl, ← List.drop_drop, e4, Jl _ _ 4 (Zm _ _)]
   have e10 : (locsB (l :: ls)).drop 10 = locsB ls := by
    rw [show 10 = 8 + 2 from rfl, ← List.drop_drop, e8, Jl _ _ 2 (Zm _ _)]
   rw [locsR, if_pos (by rw [locsB_length, List.length_cons]; omega), e4, e8, e10, locsR_all ls n (by simpa using h) (fun x hx => hl x (by simp [hx]))]
   rw [e0, Jz _ _ 4 (Zm _ _), Jz _ _ 4 (Zm _ _), Jz _ _ 2 (Zm _ _), Zbp _ 4 h1 (by omega), Zbp _ 4 h3 (by omega), Zbp _ 2 (by omega) (by omega)]
theorem Zqa {r : Rc} (h : Zx r) : refP r.kind (bodyR r) = r := by
 obtain ⟨kd, ks, id, no, size, ls, bs⟩ := r
 unfold Zx at h
 rcases h with ⟨h1, h⟩ | ⟨h1, h⟩ | ⟨h1, h⟩ | ⟨h1, h⟩
 ·dsimp only at h1
  subst h1
  obtain ⟨a1, a2, a3, ⟨a4, a5⟩, ⟨a6, a7⟩, a8, a9⟩ := h
  dsimp only at *
  obtain rfl := Jr (show ks.length = 0 by omega)
  obtain rfl := Jr a3
  subst a2
  have e : bodyR ⟨1, [], id, no, 0, [], bs⟩ = numB id 6 ++ (numB no 2 ++ bs) := by simp [bodyR]
  have e6 : (numB id 6 ++ (numB no 2 ++ bs)).drop 6 = numB no 2 ++ bs := Jl _ _ 6 (Zm _ _)
  have e8 : (numB id 6 ++ (numB no 2 ++ bs)).drop 8 = bs := by rw [show 8 = 6 + 2 from rfl, ← List.drop_drop, e6, Jl _ _ 2 (Zm _ _)]
  unfold refP
  rw [if_pos rfl, e, if_pos (by simp [Zm]; omega), e6, e8, Jz _ _ 6 (Zm _ _), Jz _ _ 2 (Zm _ _), Zbp _ 6 a4 (by omega), Zbp _ 2 a6 (by omega)]
 ·dsimp only at h1
  subst h1
  obtain ⟨a1, a2, ⟨a3, a4⟩, ⟨a5, a6⟩, ⟨a7, a8⟩, a9, a10, a11⟩ := h
  dsimp only at *
  obtain rfl := Jr a2
  subst a1
  have hb : ((byteI (ks.length : Int)).toNat) = ks.length := by have := Z9 (ks.length : Int); omega
  have e : bodyR ⟨2, ks, id, 0, size, ls, []⟩ = byteI ks.length :: (ks ++ (numB id 6 ++ (numB size 3 ++ (numB ls.length 2 ++ locsB ls)))) := by simp [bodyR, keyP]
  have ek : (ks ++ (numB id 6 ++ (numB size 3 ++ (numB ls.length 2 ++ locsB ls)))).drop ks.length = numB id 6 ++ (numB size 3 ++ (numB ls.length 2 ++ locsB ls)) := Jl _ _ _ rfl
  have e6 : (numB id 6 ++ (numB size 3 ++ (numB ls.length 2 ++ locsB ls))).drop 6 = numB size 3 ++ (numB ls.length 2 ++ locsB ls) := Jl _ _ 6 (Zm _ _)
  have e9 : (numB id 6 ++ (numB size 3 ++ (numB ls.length 2 ++ locsB ls))).drop 11 = locsB ls := by
   rw [show 11 = 6 + (3 + 2) from rfl, ← List.drop_drop, e6, ← List.drop_drop, Jl _ _ 3 (Zm _ _), Jl _ _ 2 (Zm _ _)]
  unfold refP
  rw [if_neg (by decide), if_neg (by decide), e]
  dsimp only
  rw [hb, if_neg (by simp), if_neg (by decide), ek, if_pos (by simp [Zm]; omega), e6, e9, Jz _ _ _ rfl, Jz _ _ 6 (Zm _ _), Jz _ _ 3 (Zm _ _), Zbp _ 6 a5 (by omega), Zbp _ 3 (by omega) (by omega), locsR_all ls _ (by simp [Zm, locsB_length]; omega) a10]
 ·dsimp only at h1
  subst h1
  obtain ⟨⟨a1, a2, a3, a4⟩, ⟨a5, a6⟩, a7⟩ := h
  dsimp only at *
  obtain rfl := Jr a4
  subst a1 a2 a3
  have hb : ((byteI (ks.length : Int)).toNat) = ks.length := by have := Z9 (ks.length : Int); omega
  have e : bodyR ⟨3, ks, 0, 0, 0, [], bs⟩ = byteI ks.length :: (ks ++ bs) := by simp [bodyR, keyP]
  unfold refP
  rw [if_neg (by decide), if_neg (by decide), e]
  dsimp only
  rw [hb, if_neg (by simp), if_pos rfl, Jz _ _ _ rfl, Jl _ _ _ rfl]
 ·dsimp only at h1
  subst h1
  obtain ⟨⟨a1, a2, a3, a4⟩, ⟨a5, a6⟩, a7⟩ := h
  dsimp only at *
  obtain rfl := Jr a4
  obtain rfl := Jr a7
  subst a1 a2 a3
  simp [refP, bodyR]
theorem Zqb (c : UInt8) (xs : List UInt8) : getR (c :: xs) = if putR (refP c.toNat xs) = c :: xs then some (refP c.toNat xs) else Option.none := by
 by_cases h : putR (refP c.toNat xs) = c :: xs
 ·rw [if_pos h]
  have hr : Zx (refP c.toNat xs) := by
   apply Classical.byContradiction
   intro hn
   rw [Zgk hn] at h
   cases h
  have := Zrt hr
  rwa [h] at this
 ·rw [if_neg h]
  cases hg : getR (c :: xs) with
  | none => rfl
  | some r =>
    exfalso
    obtain ⟨h1, h2⟩ := Zi3 hg
    obtain ⟨body, hb⟩ := Zp6 h1
    have hb2 : putR r = byteI r.kind :: bodyR r := by unfold putR; rw [if_pos h1]
    rw [hb2, List.cons.injEq] at h2
    have hk := Zh1 h1
    rw [h2.1] at hk
    apply h
    rw [hk, ← h2.2, Zqa h1, hb2, h2.1, h2.2]
set_option maxRecDepth 100000 in
set_option maxHeartbeats 4000000 in
theorem Zaj (A : Option Addr) (n c : Nat) (bs : List UInt8) (w : World) (hs : Sl w A n c bs) (hn : n ≤ 6) :
 Calls Tryz.prog 132 #[.slice A n c] w fun e w' => e = .returned (.int .i64 (valB bs)) ∧ w = w' := by
 have hlen := hs.len
 have HS := Lib.hid hs
 clear hs
 go_enter Tryz.func132, Tryz.ntmps132
 go_wp2_with (fail)
 go_loop [3, 4] (fun v i => ∃ j : Nat, j ≤ n ∧ i = .int .i64 (j : Nat) ∧ v = .int .i64 (valB (bs.take j))) (fun _ i => n - (intOf i).toNat)
 case atStart => exact ⟨0, by omega, rfl, rfl⟩
 case round =>
  obtain ⟨j, hj, rfl, rfl⟩ := hrel
  by_cases hlt : j < n
  ·obtain ⟨ad, rfl, _, hc⟩ := HS.out.bytes.spot hlt
   have hnx := Zho bs j (by omega)
   have hsm := Zav (bs.take j) (by rw [List.length_take]; omega)
   have hsm2 := Zav (bs.take (j + 1)) (by rw [List.length_take]; omega)
   have hb := (bs.getD j 0).toNat_lt
   generalize bs.getD j 0 = b at *
   generalize valB (bs.take j) = v at *
   have HX := Lib.hid hnx
   have HM := Lib.hid hsm2
   have k0 : (0 : Int) ≤ (j : Int) := by omega
   have k1 : (j : Int) < (n : Int) := by omega
   have e1 : IntKind.i64.wrap (256 * v) = 256 * v := IntWalk.i64_in _ ⟨by omega, by omega⟩
   have e2 : IntKind.i64.wrap (256 * v + (b.toNat : Int)) = 256 * v + (b.toNat : Int) := IntWalk.i64_in _ ⟨by omega, by omega⟩
   have e3 := IntWalk.i64_left (256 * v) ▸ e1
   have e4 := IntWalk.i64_left (256 * v + (b.toNat : Int)) ▸ e2
   clear hnx hsm2
   go_wp2_with (fail)
   go_round
   case rel => exact ⟨j + 1, by omega, by go_num, by rw [HX.out]⟩
   case measure => simp [intOf]; omega
  ·obtain rfl : j = n := by omega
   have e1 : bs.take j = bs := List.take_of_length_le (by omega)
   rw [e1]
   go_wp2_with (fail)
   go_ret
   exact ⟨rfl, rfl⟩
theorem Sl.behind {w : World} {ad : Addr} {n c k : Nat} {bs : List UInt8} (h : Sl w (some ad) n c bs) (hk : k ≤ n) : Sl w (if c = k then some ad else some (ad.add k)) (n - k) (c - k) (bs.drop k) := by
 have h2 := Row.behind (k := k) (cap := c) h.bytes hk h.cap
 refine ⟨?_, by have := h.cap; omega, fun e => by split at e <;> cases e⟩
 unfold Bytes
 rw [List.map_drop]
 simpa using h2
theorem Zai (ad : Addr) (k : Nat) : ad.add (k + 1) = ⟨ad.block, ad.off + (k + 1), none⟩ := Addr.add_succ' ad k
set_option maxRecDepth 100000 in
set_option maxHeartbeats 4000000 in
theorem Zh5 (ad : Addr) (n c : Nat) (b0 : UInt8) (xs : List UInt8) (w : World) (hs : Sl w (some ad) n c (b0 :: xs)) (hn : n ≤ 20000) (hk : b0.toNat = 1) (h9 : 9 ≤ n) :
 Calls Tryz.prog 107 #[.slice (some ad) n c] w fun e w' => ∃ LA ln lc BA bn bc, e = .returned (.agg #[.int .i64 (refP b0.toNat xs).kind, .string ⟨(refP b0.toNat xs).key.toArray⟩, .int .i64 (refP b0.toNat xs).id, .int .i64 (refP b0.toNat xs).no, .int .i64 (refP b0.toNat xs).size, .slice LA ln lc, .slice BA bn bc]) ∧ RcOwn w' w.heap.size LA ln lc BA bn bc (refP b0.toNat xs) ∧ Below w.heap.size w w' := by
 have hlen := hs.len
 have hcap := hs.cap
 simp only [List.length_cons] at hlen
 have hn0 : (0 : Int) < (n : Int) := by omega
 have hnn : 0 < n := by omega
 obtain ⟨_, e0, hab, hcell⟩ := hs.bytes.spot (k := 0) (by omega)
 injection e0 with e0
 subst e0
 simp only [List.getD_cons_zero, Addr.add_zero'] at hcell
 have hb0 := b0.toNat_lt
 have HS := hid hs
 clear hs
 have hk1 : (b0.toNat : Int) = 1 := by omega
 have h9i : (9 : Int) ≤ (n : Int) := by omega
 have q1 : (1 : Int) ≤ (c : Int) := by omega
 have q7 : (7 : Int) ≤ (c : Int) := by omega
 have q9 : (9 : Int) ≤ (c : Int) := by omega
 have q9n : 9 ≤ c := by omega
 have nc1 : ¬ c = 1 := by omega
 have nc7 : ¬ c = 7 := by omega
 have p1 : ∀ w', Grows w w' → Sl w' (some ⟨ad.block, ad.off + 1, none⟩) 6 (c - 1) (xs.take 6) := fun w' hg => by
  have h := Sl.part (k := 1) (m := 7) (HS.out.grow hg) (by omega) (by omega) nc1
  rw [Zai] at h
  simpa [List.drop_take] using h
 have p2 : ∀ w', Grows w w' → Sl w' (some ⟨ad.block, ad.off + 7, none⟩) 2 (c - 7) ((xs.drop 6).take 2) := fun w' hg => by
  have h := Sl.part (k := 7) (m := 9) (HS.out.grow hg) (by omega) (by omega) nc7
  rw [Zai] at h
  simpa [List.drop_take] using h
 have p3 : ∀ w', Grows w w' → Sl w' (if c = 9 then some ad else some ⟨ad.block, ad.off + 9, none⟩) (n - 9) (c - 9) (xs.drop 8) := fun w' hg => by
  have h := Sl.behind (k := 9) (HS.out.grow hg) (by omega)
  rw [Zai] at h
  simpa using h
 have hy : refP b0.toNat xs = ⟨1, [], valB (xs.take 6), valB ((xs.drop 6).take 2), 0, [], xs.drop 8⟩ := by
  unfold refP
  rw [if_pos hk1, if_pos (by omega)]
 rw [hy]
 dsimp only
 obtain ⟨v1, hv1⟩ : ∃ v, valB (xs.take 6) = v := ⟨_, rfl⟩
 obtain ⟨v2, hv2⟩ : ∃ v, valB ((xs.drop 6).take 2) = v := ⟨_, rfl⟩
 rw [hv1, hv2]
 have HV := hid (And.intro hv1 hv2)
 clear hv1 hv2
 have HP := hid (And.intro p1 (And.intro p2 p3))
 clear p1 p2 p3 hy
 go_enter Tryz.func107, Tryz.ntmps107
 go_wp2_with (fail)
 refine (Zaj _ 6 _ (xs.take 6) _ (HP.out.1 _ (Grows.trans (Zb _ _) (Zb _ _))) (by omega)).mono ?_
 rintro e w1 ⟨rfl, rfl⟩
 rw [HV.out.1]
 go_wp2_with (fail)
 refine (Zaj _ 2 _ ((xs.drop 6).take 2) _ (HP.out.2.1 _ (Grows.trans (Zb _ _) (Zb _ _))) (by omega)).mono ?_
 rintro e w2 ⟨rfl, rfl⟩
 rw [HV.out.2]
 have hz := (Zb (w.alloc (.cells #[.int .i64 0, .string ⟨#[]⟩, .int .i64 0, .int .i64 0, .int .i64 0, .slice none 0 0, .slice none 0 0] 33)) (.cells #[.int .i64 1, .string ⟨#[]⟩, .int .i64 v1, .int .i64 v2, .int .i64 0, .slice none 0 0, .slice none 0 0] 33)).whole (Whole.made w 33 #[.int .i64 0, .string ⟨#[]⟩, .int .i64 0, .int .i64 0, .int .i64 0, .slice none 0 0, .slice none 0 0])
 have hr := Whole.made (w.alloc (.cells #[.int .i64 0, .string ⟨#[]⟩, .int .i64 0, .int .i64 0, .int .i64 0, .slice none 0 0, .slice none 0 0] 33)) 33 #[.int .i64 1, .string ⟨#[]⟩, .int .i64 v1, .int .i64 v2, .int .i64 0, .slice none 0 0, .slice none 0 0]
 rw [World.size_alloc] at hr
 obtain ⟨U, hU⟩ : ∃ U, (w.alloc (.cells #[.int .i64 0, .string ⟨#[]⟩, .int .i64 0, .int .i64 0, .int .i64 0, .slice none 0 0, .slice none 0 0] 33)).alloc (.cells #[.int .i64 1, .string ⟨#[]⟩, .int .i64 v1, .int .i64 v2, .int .i64 0, .slice none 0 0, .slice none 0 0] 33) = U := ⟨_, rfl⟩
 have hgU : Grows w U := hU ▸ Grows.trans (Zb _ _) (Zb _ _)
 have hsz : U.heap.size = w.heap.size + 1 + 1 := by rw [← hU]; simp
 rw [hU] at hz hr
 have HZ := hid hz
 have HR := hid hr
 have HGU := hid hgU
 by_cases h9c : c = 9
 ·obtain rfl : n = 9 := by omega
  have p3 : ∀ w', Grows w w' → Sl w' (some ad) 0 0 (xs.drop 8) := fun w' hg => by
   have h := HP.out.2.2 w' hg
   simpa [h9c] using h
  clear HP
  subst h9c
  have P3 := hid p3
  have hown := Y0 U
  rw [hsz] at hown
  have HOWN := hid hown
  have HBASE := hid (show w.heap.size + 1 + 1 ≤ (U.alloc (.cells #[] 5)).heap.size by rw [← hsz]; exact Z1 _ _)
  clear p3 hown
  go_wp2_with (at_builtin
               first
               | (refine Y8 isSl_bytes isSl_bytes rfl (.tmp 26) (.tmp 28) rfl (base := w.heap.size + 1 + 1) rfl HOWN.out (A := some ad) (m := 0) (c := 0) rfl (P3.out _ (Grows.trans HGU.out (Zb _ _))) (0) (by omega) (by omega) HBASE.out ?_
                  intro A1 c1 w1 ho hb hst
                  have hb' : Grows U w1 := Below.trans (Zb U _) (by rw [hsz]; exact hb)
                  have hz1 := hb'.whole HZ.out
                  have hr1 := hb'.whole HR.out
                  have HZ1 := hid hz1
                  have HR1 := hid hr1
                  have HO1 := hid ho
                  have HB1 := hid hb'
                  have zc0 := hz1.cell 0
                  have zf0 := hz1.free 0
                  have zc1 := hz1.cell 1
                  have zf1 := hz1.free 1
                  have zc2 := hz1.cell 2
                  have zf2 := hz1.free 2
                  have zc3 := hz1.cell 3
                  have zf3 := hz1.free 3
                  have zc4 := hz1.cell 4
                  have zf4 := hz1.free 4
                  have zc5 := hz1.cell 5
                  have zf5 := hz1.free 5
                  have zc6 := hz1.cell 6
                  have zf6 := hz1.free 6
                  have rc0 := hr1.cell 0
                  have rf0 := hr1.free 0
                  have rc1 := hr1.cell 1
                  have rf1 := hr1.free 1
                  have rc2 := hr1.cell 2
                  have rf2 := hr1.free 2
                  have rc3 := hr1.cell 3
                  have rf3 := hr1.free 3
                  have rc4 := hr1.cell 4
                  have rf4 := hr1.free 4
                  have rc5 := hr1.cell 5
                  have rf5 := hr1.free 5
                  have rc6 := hr1.cell 6
                  have rf6 := hr1.free 6
                  simp only [Gt] at zc0 zc1 zc2 zc3 zc4 zc5 zc6 rc0 rc1 rc2 rc3 rc4 rc5 rc6
                  clear ho hb hst hb' hz1 hr1))
  obtain ⟨V, hV⟩ : ∃ V, w1.setCell ⟨w.heap.size + 1, 6, none⟩ (.slice A1 (0) c1) = V := ⟨_, rfl⟩
  rw [hV]
  have ht1 : Turns (w.heap.size + 1) w1 V := hV ▸ Turns.set 6 _
  have hzV := ht1.whole HZ1.out (by omega)
  obtain ⟨W, hW, hwh, hwt⟩ := Ya hzV (.int .i64 1) (.string ⟨#[]⟩) (.int .i64 v1) (.int .i64 v2) (.int .i64 0) (.slice none 0 0) (.slice A1 (0) c1)
  rw [hW]
  have HWB := hid (And.intro ht1 hwt)
  have HZV := hid hzV
  clear hW hwt hV ht1 hzV
  refine bodyPost_ret (results_cell_row rfl _ _ w.heap.size _ _ (0, 0) _ rfl hwh Tryz.underlying33 rfl (by kernel_rfl)) rfl ?_
  exact ⟨none, 0, 0, A1, 0, c1, rfl, ⟨World.ownsRow_nil _ _ _ _, rfl, Zj (Zz (Zz HO1.out HWB.out.1 (by omega)) HWB.out.2 (by omega)) (by omega)⟩, Below.trans (Grows.trans HGU.out HB1.out) (Below.trans (Below.mono (HWB.out.1.below (by have := HR1.out.lt; omega)) (by omega)) (HWB.out.2.below (by have := HZV.out.lt; omega)))⟩
 ·have p3 : ∀ w', Grows w w' → Sl w' (some ⟨ad.block, ad.off + 9, none⟩) (n - 9) (c - 9) (xs.drop 8) := fun w' hg => by
   have h := HP.out.2.2 w' hg
   simpa only [if_neg h9c] using h
  clear HP
  have P3 := hid p3
  have hown := Y0 U
  rw [hsz] at hown
  have HOWN := hid hown
  have HBASE := hid (show w.heap.size + 1 + 1 ≤ (U.alloc (.cells #[] 5)).heap.size by rw [← hsz]; exact Z1 _ _)
  clear p3 hown
  go_wp2_with (at_builtin
               first
               | (refine Y8 isSl_bytes isSl_bytes rfl (.tmp 26) (.tmp 28) rfl (base := w.heap.size + 1 + 1) rfl HOWN.out (A := some ⟨ad.block, ad.off + 9, none⟩) (m := n - 9) (c := c - 9) rfl (P3.out _ (Grows.trans HGU.out (Zb _ _))) (n - 9) (by omega) (by omega) HBASE.out ?_
                  intro A1 c1 w1 ho hb hst
                  have hb' : Grows U w1 := Below.trans (Zb U _) (by rw [hsz]; exact hb)
                  have hz1 := hb'.whole HZ.out
                  have hr1 := hb'.whole HR.out
                  have HZ1 := hid hz1
                  have HR1 := hid hr1
                  have HO1 := hid ho
                  have HB1 := hid hb'
                  have zc0 := hz1.cell 0
                  have zf0 := hz1.free 0
                  have zc1 := hz1.cell 1
                  have zf1 := hz1.free 1
                  have zc2 := hz1.cell 2
                  have zf2 := hz1.free 2
                  have zc3 := hz1.cell 3
                  have zf3 := hz1.free 3
                  have zc4 := hz1.cell 4
                  have zf4 := hz1.free 4
                  have zc5 := hz1.cell 5
                  have zf5 := hz1.free 5
                  have zc6 := hz1.cell 6
                  have zf6 := hz1.free 6
                  have rc0 := hr1.cell 0
                  have rf0 := hr1.free 0
                  have rc1 := hr1.cell 1
                  have rf1 := hr1.free 1
                  have rc2 := hr1.cell 2
                  have rf2 := hr1.free 2
                  have rc3 := hr1.cell 3
                  have rf3 := hr1.free 3
                  have rc4 := hr1.cell 4
                  have rf4 := hr1.free 4
                  have rc5 := hr1.cell 5
                  have rf5 := hr1.free 5
                  have rc6 := hr1.cell 6
                  have rf6 := hr1.free 6
                  simp only [Gt] at zc0 zc1 zc2 zc3 zc4 zc5 zc6 rc0 rc1 rc2 rc3 rc4 rc5 rc6
                  clear ho hb hst hb' hz1 hr1))
  obtain ⟨V, hV⟩ : ∃ V, w1.setCell ⟨w.heap.size + 1, 6, none⟩ (.slice A1 (n - 9) c1) = V := ⟨_, rfl⟩
  rw [hV]
  have ht1 : Turns (w.heap.size + 1) w1 V := hV ▸ Turns.set 6 _
  have hzV := ht1.whole HZ1.out (by omega)
  obtain ⟨W, hW, hwh, hwt⟩ := Ya hzV (.int .i64 1) (.string ⟨#[]⟩) (.int .i64 v1) (.int .i64 v2) (.int .i64 0) (.slice none 0 0) (.slice A1 (n - 9) c1)
  rw [hW]
  have HWB := hid (And.intro ht1 hwt)
  have HZV := hid hzV
  clear hW hwt hV ht1 hzV
  refine bodyPost_ret (results_cell_row rfl _ _ w.heap.size _ _ (0, 0) _ rfl hwh Tryz.underlying33 rfl (by kernel_rfl)) rfl ?_
  exact ⟨none, 0, 0, A1, n - 9, c1, rfl, ⟨World.ownsRow_nil _ _ _ _, rfl, Zj (Zz (Zz HO1.out HWB.out.1 (by omega)) HWB.out.2 (by omega)) (by omega)⟩, Below.trans (Grows.trans HGU.out HB1.out) (Below.trans (Below.mono (HWB.out.1.below (by have := HR1.out.lt; omega)) (by omega)) (HWB.out.2.below (by have := HZV.out.lt; omega)))⟩
set_option maxRecDepth 100000 in
set_option maxHeartbeats 4000000 in
theorem Zh4 (ad : Addr) (n c : Nat) (b0 : UInt8) (xs : List UInt8) (w : World) (hs : Sl w (some ad) n c (b0 :: xs)) (hn : n ≤ 20000) (hk : b0.toNat = 1) (h9 : n < 9) :
 Calls Tryz.prog 107 #[.slice (some ad) n c] w fun e w' => ∃ LA ln lc BA bn bc, e = .returned (.agg #[.int .i64 (refP b0.toNat xs).kind, .string ⟨(refP b0.toNat xs).key.toArray⟩, .int .i64 (refP b0.toNat xs).id, .int .i64 (refP b0.toNat xs).no, .int .i64 (refP b0.toNat xs).size, .slice LA ln lc, .slice BA bn bc]) ∧ RcOwn w' w.heap.size LA ln lc BA bn bc (refP b0.toNat xs) ∧ Below w.heap.size w w' := by
 have hlen := hs.len
 have hcap := hs.cap
 simp only [List.length_cons] at hlen
 have hn0 : (0 : Int) < (n : Int) := by omega
 have hnn : 0 < n := by omega
 obtain ⟨_, e0, hab, hcell⟩ := hs.bytes.spot (k := 0) (by omega)
 injection e0 with e0
 subst e0
 simp only [List.getD_cons_zero, Addr.add_zero'] at hcell
 have hb0 := b0.toNat_lt
 have HS := Lib.hid hs
 clear hs
 have hk1 : (b0.toNat : Int) = 1 := by omega
 have h9i : ¬ (9 : Int) ≤ (n : Int) := by omega
 have hy : refP b0.toNat xs = ⟨1, [], 0, 0, 0, [], []⟩ := by
  unfold refP
  rw [if_pos hk1, if_neg (by omega)]
 rw [hy]
 dsimp only
 clear hy
 go_enter Tryz.func107, Tryz.ntmps107
 go_wp2
 refine bodyPost_ret (results_cell_row rfl _ _ w.heap.size _ _ (0, 0) _ rfl ((Zb _ _).whole (Whole.made w 33 #[.int .i64 1, .string ⟨#[]⟩, .int .i64 0, .int .i64 0, .int .i64 0, .slice none 0 0, .slice none 0 0])) Tryz.underlying33 rfl (by kernel_rfl)) rfl ?_
 exact ⟨none, 0, 0, none, 0, 0, rfl, RcOwn.nil _ _ _ _ _ _ _, Grows.trans (Zb _ _) (Zb _ _)⟩
set_option maxRecDepth 100000 in
set_option maxHeartbeats 4000000 in
theorem Zi9 (ad : Addr) (n c : Nat) (b0 : UInt8) (xs : List UInt8) (w : World) (hs : Sl w (some ad) n c (b0 :: xs)) (hn : n ≤ 20000) (hk : b0.toNat = 4) :
 Calls Tryz.prog 107 #[.slice (some ad) n c] w fun e w' => ∃ LA ln lc BA bn bc, e = .returned (.agg #[.int .i64 (refP b0.toNat xs).kind, .string ⟨(refP b0.toNat xs).key.toArray⟩, .int .i64 (refP b0.toNat xs).id, .int .i64 (refP b0.toNat xs).no, .int .i64 (refP b0.toNat xs).size, .slice LA ln lc, .slice BA bn bc]) ∧ RcOwn w' w.heap.size LA ln lc BA bn bc (refP b0.toNat xs) ∧ Below w.heap.size w w' := by
 have hlen := hs.len
 have hcap := hs.cap
 simp only [List.length_cons] at hlen
 have hn0 : (0 : Int) < (n : Int) := by omega
 have hnn : 0 < n := by omega
 obtain ⟨_, e0, hab, hcell⟩ := hs.bytes.spot (k := 0) (by omega)
 injection e0 with e0
 subst e0
 simp only [List.getD_cons_zero, Addr.add_zero'] at hcell
 have hb0 := b0.toNat_lt
 have HS := Lib.hid hs
 clear hs
 have hk4 : (b0.toNat : Int) = 4 := by omega
 have hy : refP b0.toNat xs = ⟨4, xs, 0, 0, 0, [], []⟩ := by
  unfold refP
  rw [if_neg (by omega), if_pos hk4]
 rw [hy]
 dsimp only
 have q1 : (1 : Int) ≤ (c : Int) := by omega
 have q1n : (1 : Int) ≤ (n : Int) := by omega
 have p1 : ∀ w', Grows w w' → Sl w' (if c = 1 then some ad else some ⟨ad.block, ad.off + 1, none⟩) (n - 1) (c - 1) xs := fun w' hg => by
  have h := Sl.behind (k := 1) (HS.out.grow hg) (by omega)
  rw [Zai] at h
  simpa using h
 have hst := Zu (p1 ((w.alloc (.cells #[.int .i64 0, .string ⟨#[]⟩, .int .i64 0, .int .i64 0, .int .i64 0, .slice none 0 0, .slice none 0 0] 33)).alloc (.cells #[.int .i64 4, .string ⟨#[]⟩, .int .i64 0, .int .i64 0, .int .i64 0, .slice none 0 0, .slice none 0 0] 33)) (Grows.trans (Zb _ _) (Zb _ _)))
 clear hy p1
 by_cases h1c : c = 1
 ·simp only [if_pos h1c] at hst
  subst h1c
  have hn1 : n = 1 := by omega
  subst hn1
  go_enter Tryz.func107, Tryz.ntmps107
  go_wp2
  refine bodyPost_ret (results_cell_row rfl _ _ w.heap.size _ _ (0, 0) _ rfl ((Zb _ _).whole (Whole.made w 33 #[.int .i64 4, .string ⟨xs.toArray⟩, .int .i64 0, .int .i64 0, .int .i64 0, .slice none 0 0, .slice none 0 0])) Tryz.underlying33 rfl (by kernel_rfl)) rfl ?_
  exact ⟨none, 0, 0, none, 0, 0, rfl, RcOwn.nil _ _ _ _ _ _ _, Grows.trans (Zb _ _) (Zb _ _)⟩
 ·simp only [if_neg h1c] at hst
  go_enter Tryz.func107, Tryz.ntmps107
  go_wp2
  refine bodyPost_ret (results_cell_row rfl _ _ w.heap.size _ _ (0, 0) _ rfl ((Zb _ _).whole (Whole.made w 33 #[.int .i64 4, .string ⟨xs.toArray⟩, .int .i64 0, .int .i64 0, .int .i64 0, .slice none 0 0, .slice none 0 0])) Tryz.underlying33 rfl (by kernel_rfl)) rfl ?_
  exact ⟨none, 0, 0, none, 0, 0, rfl, RcOwn.nil _ _ _ _ _ _ _, Grows.trans (Zb _ _) (Zb _ _)⟩
set_option maxRecDepth 100000 in
set_option maxHeartbeats 4000000 in
theorem Zle (ad : Addr) (n c : Nat) (b0 : UInt8) (xs : List UInt8) (w : World) (hs : Sl w (some ad) n c (b0 :: xs)) (hn : n ≤ 20000) (hk1 : b0.toNat ≠ 1) (hk4 : b0.toNat ≠ 4) (hx : xs = []) :
 Calls Tryz.prog 107 #[.slice (some ad) n c] w fun e w' => ∃ LA ln lc BA bn bc, e = .returned (.agg #[.int .i64 (refP b0.toNat xs).kind, .string ⟨(refP b0.toNat xs).key.toArray⟩, .int .i64 (refP b0.toNat xs).id, .int .i64 (refP b0.toNat xs).no, .int .i64 (refP b0.toNat xs).size, .slice LA ln lc, .slice BA bn bc]) ∧ RcOwn w' w.heap.size LA ln lc BA bn bc (refP b0.toNat xs) ∧ Below w.heap.size w w' := by
 have hlen := hs.len
 have hcap := hs.cap
 simp only [List.length_cons] at hlen
 have hn0 : (0 : Int) < (n : Int) := by omega
 have hnn : 0 < n := by omega
 obtain ⟨_, e0, hab, hcell⟩ := hs.bytes.spot (k := 0) (by omega)
 injection e0 with e0
 subst e0
 simp only [List.getD_cons_zero, Addr.add_zero'] at hcell
 have hb0 := b0.toNat_lt
 have HS := Lib.hid hs
 clear hs
 have hk1i : ¬ (b0.toNat : Int) = 1 := by omega
 have hk4i : ¬ (b0.toNat : Int) = 4 := by omega
 subst hx
 simp only [List.length_nil] at hlen
 obtain rfl : n = 1 := by omega
 clear hlen
 have hy : refP b0.toNat [] = ⟨b0.toNat, [], 0, 0, 0, [], []⟩ := by
  unfold refP
  rw [if_neg hk1i, if_neg hk4i]
 rw [hy]
 dsimp only
 clear hy
 go_enter Tryz.func107, Tryz.ntmps107
 go_wp2
 refine bodyPost_ret (results_cell_row rfl _ _ w.heap.size _ _ (0, 0) _ rfl ((Zb _ _).whole (Whole.made w 33 #[.int .i64 b0.toNat, .string ⟨#[]⟩, .int .i64 0, .int .i64 0, .int .i64 0, .slice none 0 0, .slice none 0 0])) Tryz.underlying33 rfl (by kernel_rfl)) rfl ?_
 exact ⟨none, 0, 0, none, 0, 0, rfl, RcOwn.nil _ _ _ _ _ _ _, Grows.trans (Zb _ _) (Zb _ _)⟩
set_option maxRecDepth 100000 in
set_option maxHeartbeats 4000000 in
theorem Zlf (ad : Addr) (n c : Nat) (b0 : UInt8) (xs : List UInt8) (w : World) (hs : Sl w (some ad) n c (b0 :: xs)) (hn : n ≤ 20000) (hk1 : b0.toNat ≠ 1) (hk4 : b0.toNat ≠ 4) (c0 : UInt8) (ys : List UInt8) (hx : xs = c0 :: ys) (hl : ys.length < c0.toNat) :
 Calls Tryz.prog 107 #[.slice (some ad) n c] w fun e w' => ∃ LA ln lc BA bn bc, e = .returned (.agg #[.int .i64 (refP b0.toNat xs).kind, .string ⟨(refP b0.toNat xs).key.toArray⟩, .int .i64 (refP b0.toNat xs).id, .int .i64 (refP b0.toNat xs).no, .int .i64 (refP b0.toNat xs).size, .slice LA ln lc, .slice BA bn bc]) ∧ RcOwn w' w.heap.size LA ln lc BA bn bc (refP b0.toNat xs) ∧ Below w.heap.size w w' := by
 have hlen := hs.len
 have hcap := hs.cap
 simp only [List.length_cons] at hlen
 have hn0 : (0 : Int) < (n : Int) := by omega
 have hnn : 0 < n := by omega
 obtain ⟨_, e0, hab, hcell⟩ := hs.bytes.spot (k := 0) (by omega)
 injection e0 with e0
 subst e0
 simp only [List.getD_cons_zero, Addr.add_zero'] at hcell
 have hb0 := b0.toNat_lt
 have HS := Lib.hid hs
 clear hs
 have hk1i : ¬ (b0.toNat : Int) = 1 := by omega
 have hk4i : ¬ (b0.toNat : Int) = 4 := by omega
 subst hx
 simp only [List.length_cons] at hlen
 have hn2 : ¬ (n : Int) < 2 := by omega
 have hn1 : (1 : Int) < (n : Int) := by omega
 have hn1n : 1 < n := by omega
 obtain ⟨_, e1, hab1, hcell1⟩ := HS.out.bytes.spot (k := 1) (by omega)
 injection e1 with e1
 subst e1
 simp only [List.getD_cons_succ, List.getD_cons_zero, Zai] at hcell1
 have hc0 := c0.toNat_lt
 have hlt : (n : Int) < 2 + (c0.toNat : Int) := by omega
 have hy : refP b0.toNat (c0 :: ys) = ⟨b0.toNat, [], 0, 0, 0, [], []⟩ := by
  unfold refP
  rw [if_neg hk1i, if_neg hk4i]
  dsimp only
  rw [if_pos hl]
 rw [hy]
 dsimp only
 clear hy
 have hwr : IntKind.i64.wrap (2 + (c0.toNat : Int)) = 2 + (c0.toNat : Int) := IntWalk.i64_in _ (by omega)
 go_enter Tryz.func107, Tryz.ntmps107
 go_wp2
 refine bodyPost_ret (results_cell_row rfl _ _ w.heap.size _ _ (0, 0) _ rfl ((Zb _ _).whole (Whole.made w 33 #[.int .i64 b0.toNat, .string ⟨#[]⟩, .int .i64 0, .int .i64 0, .int .i64 0, .slice none 0 0, .slice none 0 0])) Tryz.underlying33 rfl (by kernel_rfl)) rfl ?_
 exact ⟨none, 0, 0, none, 0, 0, rfl, RcOwn.nil _ _ _ _ _ _ _, Grows.trans (Zb _ _) (Zb _ _)⟩
end Go.Proofs.YtlldcogkcjnejaaGreat
