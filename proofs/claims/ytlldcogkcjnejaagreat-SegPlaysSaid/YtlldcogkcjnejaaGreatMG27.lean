import Derived.Test.YtlldcogkcjnejaaGreatMG18
import Derived.Test.YtlldcogkcjnejaaGreatMG22
import Derived.OwnWalk
namespace Go.Proofs.YtlldcogkcjnejaaGreat
theorem Zek (a b : List UInt8) (n : Nat) (h : a.length = n) : takeS (a ++ b, false) (n : Int) = (a, (b, false)) := by
 subst h
 unfold takeS
 rw [if_neg (by rintro (h | h); cases h; simp at h; omega)]
 simp
theorem Jy (x : Int) (k : Nat) (b : List UInt8) (h0 : 0 ≤ x) (h : x < 256 ^ k) : numS (numB x k ++ b, false) (k : Int) = (x, (b, false)) := by
 unfold numS
 rw [Zek _ _ k (Zm x k)]
 dsimp only
 rw [Zbp x k h0 h]
theorem Zj4 (k b : List UInt8) (h : k.length ≤ 64) : keyS (keyP k ++ b, false) = (k, (b, false)) := by
 have h1 : numS (keyP k ++ b, false) 1 = ((k.length : Int), (k ++ b, false)) := by
  have := Jy (k.length : Int) 1 (k ++ b) (by omega) (by omega)
  have e : numB (k.length : Int) 1 ++ (k ++ b) = keyP k ++ b := by simp [numB, keyP]
  rw [e] at this
  exact this
 unfold keyS
 rw [h1]
 exact Zek k b k.length rfl
theorem Zel (b : List UInt8) : restS (b, false) = (b, ([], false)) := by
 have := Zek b [] b.length rfl
 rw [List.append_nil] at this
 exact this
theorem Zp7 (l : Lc) (b : List UInt8) (h : LocOk l) : locS (locB l ++ b, false) = (l, (b, false)) := by
 obtain ⟨⟨h1, h2⟩, ⟨h3, h4⟩, h5, h6⟩ := h
 have e1 := Jy l.1 4 (numB l.2.1 4 ++ (numB l.2.2 2 ++ b)) h1 (by omega)
 have e2 := Jy l.2.1 4 (numB l.2.2 2 ++ b) h3 (by omega)
 have e3 := Jy l.2.2 2 b (by omega) (by omega)
 have e : locB l ++ b = numB l.1 4 ++ (numB l.2.1 4 ++ (numB l.2.2 2 ++ b)) := by simp [locB]
 unfold locS
 rw [e]
 rw [show ((4 : Nat) : Int) = 4 from rfl] at e1 e2
 rw [show ((2 : Nat) : Int) = 2 from rfl] at e3
 rw [e1]
 dsimp only
 rw [e2]
 dsimp only
 rw [e3]
theorem locsL_all : ∀ (ls : List Lc) (b : List UInt8) (acc : List Lc), (∀ l ∈ ls, LocOk l) → locsL ls.length (locsB ls ++ b, false) acc = (acc ++ ls, (b, false))
 | [], b, acc, _ => by simp [locsL, locsB]
 | l :: ls, b, acc, h => by
   rw [List.length_cons, locsL, locsB, List.append_assoc, Zp7 l _ (h l (by simp))]
   dsimp only
   rw [if_neg (by simp), locsL_all ls b _ (fun x hx => h x (by simp [hx]))]
   simp
theorem Zn6 (ls : List Lc) (b : List UInt8) (hn : ls.length ≤ 512) (h : ∀ l ∈ ls, LocOk l) : locsS (numB ls.length 2 ++ (locsB ls ++ b), false) = (ls, (b, false)) := by
 have e := Jy (ls.length : Int) 2 (locsB ls ++ b) (by omega) (by omega)
 rw [show ((2 : Nat) : Int) = 2 from rfl] at e
 unfold locsS
 rw [e]
 dsimp only
 rw [Int.toNat_natCast, locsL_all ls b [] h, List.nil_append]
theorem Zbz {r : Rc} (h : Zx r) : r.kind = 1 ∨ r.kind = 2 ∨ r.kind = 3 ∨ r.kind = 4 := by
 unfold Zx at h
 omega
theorem Jr {α : Type} {l : List α} (h : l.length = 0) : l = [] := List.eq_nil_of_length_eq_zero h
theorem Zn7 {r : Rc} (h : Zx r) : partS r.kind (bodyR r, false) = ({ r with kind := 0 }, ([], false)) := by
 obtain ⟨kd, ks, id, no, size, ls, bs⟩ := r
 unfold Zx at h
 rcases h with ⟨h1, h⟩ | ⟨h1, h⟩ | ⟨h1, h⟩ | ⟨h1, h⟩
 ·dsimp only at h1
  subst h1
  obtain ⟨a1, a2, a3, ⟨a4, a5⟩, ⟨a6, a7⟩, a8, a9⟩ := h
  dsimp only at *
  have e1 := Jy id 6 (numB no 2 ++ bs) a4 (by omega)
  have e2 := Jy no 2 bs a6 (by omega)
  rw [show ((6 : Nat) : Int) = 6 from rfl] at e1
  rw [show ((2 : Nat) : Int) = 2 from rfl] at e2
  obtain rfl := Jr (show ks.length = 0 by omega)
  obtain rfl := Jr a3
  subst a2
  simp [partS, bodyR, Zad, e1, e2, Zel]
 ·dsimp only at h1
  subst h1
  obtain ⟨a1, a2, ⟨a3, a4⟩, ⟨a5, a6⟩, ⟨a7, a8⟩, a9, a10, a11⟩ := h
  dsimp only at *
  obtain rfl := Jr a2
  subst a1
  have e1 := Jy id 6 (numB size 3 ++ (numB ls.length 2 ++ locsB ls)) a5 (by omega)
  have e2 := Jy size 3 (numB ls.length 2 ++ locsB ls) (by omega) (by omega)
  have e3 := Zn6 ls [] a9 a10
  rw [show ((6 : Nat) : Int) = 6 from rfl] at e1
  rw [show ((3 : Nat) : Int) = 3 from rfl] at e2
  rw [List.append_nil] at e3
  simp [partS, bodyR, rootS, Zj4 _ _ a4, e1, e2, e3]
 ·dsimp only at h1
  subst h1
  obtain ⟨⟨a1, a2, a3, a4⟩, ⟨a5, a6⟩, a7⟩ := h
  dsimp only at *
  obtain rfl := Jr a4
  subst a1 a2 a3
  simp [partS, bodyR, Yz, Zj4 _ _ a6, Zel]
 ·dsimp only at h1
  subst h1
  obtain ⟨⟨a1, a2, a3, a4⟩, ⟨a5, a6⟩, a7⟩ := h
  dsimp only at *
  obtain rfl := Jr a4
  obtain rfl := Jr a7
  subst a1 a2 a3
  simp [partS, bodyR, tombS, Zel]
theorem Zh1 {r : Rc} (h : Zx r) : ((byteI r.kind).toNat : Int) = r.kind := by
 have := Zbz h
 rw [Z9]
 omega
theorem Zfn (c : UInt8) (bs : List UInt8) : getR (c :: bs) = if 1 ≤ c.toNat ∧ c.toNat ≤ 4 then (if ((partS c.toNat (bs, false)).2.2 = false ∧ (partS c.toNat (bs, false)).2.1 = []) ∧ Zx { (partS c.toNat (bs, false)).1 with kind := c.toNat } then some { (partS c.toNat (bs, false)).1 with kind := c.toNat } else Option.none) else Option.none := rfl
theorem Zrt {r : Rc} (h : Zx r) : getR (putR r) = some r := by
 have hk := Zh1 h
 have hr := Zbz h
 unfold putR
 rw [if_pos h, Zfn, if_pos (by omega), hk, Zn7 h, if_pos ⟨⟨rfl, rfl⟩, h⟩]
theorem Zeh {s : Src} {n : Int} (hn : 0 ≤ n) (h : (takeS s n).2.2 = false) : s.2 = false ∧ s.1 = (takeS s n).1 ++ (takeS s n).2.1 ∧ ((takeS s n).1.length : Int) = n := by
 unfold takeS at *
 by_cases hc : s.2 = true ∨ (s.1.length : Int) < n
 ·rw [if_pos hc] at h
  cases h
 ·rw [if_neg hc]
  have h1 : ¬ s.2 = true := fun e => hc (.inl e)
  have h2 : ¬ (s.1.length : Int) < n := fun e => hc (.inr e)
  refine ⟨by simpa using h1, by simp, ?_⟩
  simp
  omega
theorem Jw {s : Src} {k : Nat} (h : (numS s (k : Int)).2.2 = false) : s.2 = false ∧ s.1 = numB (numS s (k : Int)).1 k ++ (numS s (k : Int)).2.1 ∧ 0 ≤ (numS s (k : Int)).1 := by
 obtain ⟨h1, h2, h3⟩ := Zeh (by omega) h
 refine ⟨h1, ?_, (Zb8 _).1⟩
 have hk : (takeS s (k : Int)).1.length = k := by omega
 have e := Zky (takeS s (k : Int)).1
 rw [hk] at e
 show s.1 = numB (valB (takeS s (k : Int)).1) k ++ (takeS s (k : Int)).2.1
 rw [e]
 exact h2
theorem Zj2 {s : Src} (h : (keyS s).2.2 = false) : s.2 = false ∧ s.1 = keyP (keyS s).1 ++ (keyS s).2.1 := by
 have h0 : 0 ≤ (numS s 1).1 := (Zb8 _).1
 obtain ⟨h1, h2, h3⟩ := Zeh h0 h
 obtain ⟨g1, g2, g3⟩ := Jw (s := s) (k := 1) h1
 refine ⟨g1, ?_⟩
 rw [show ((1 : Nat) : Int) = 1 from rfl] at g2
 rw [h2] at g2
 have e : numB (numS s 1).1 1 = [byteI ((keyS s).1.length : Int)] := by
  have : ((keyS s).1.length : Int) = (numS s 1).1 := h3
  rw [this]
  simp [numB]
 rw [e] at g2
 exact g2
theorem Zei {s : Src} (h : (restS s).2.2 = false) : s.2 = false ∧ s.1 = (restS s).1 := by
 obtain ⟨h1, h2, h3⟩ := Zeh (by omega) h
 refine ⟨h1, ?_⟩
 have h4 : (restS s).2.1 = [] := by
  have := congrArg List.length h2
  rw [List.length_append] at this
  have h5 : (restS s).1.length = s.1.length := by have : ((restS s).1.length : Int) = s.1.length := h3; omega
  exact List.eq_nil_of_length_eq_zero (by
   show (takeS s s.1.length).2.1.length = 0
   have h6 : (takeS s s.1.length).1.length = s.1.length := h5
   omega)
 have : s.1 = (restS s).1 ++ (restS s).2.1 := h2
 rw [h4, List.append_nil] at this
 exact this
theorem Zp4 {s : Src} (h : (locS s).2.2 = false) : s.2 = false ∧ s.1 = locB (locS s).1 ++ (locS s).2.1 := by
 have h1 : (numS (numS (numS s 4).2 4).2 2).2.2 = false := h
 obtain ⟨a1, a2, _⟩ := Jw (s := (numS (numS s 4).2 4).2) (k := 2) h1
 obtain ⟨b1, b2, _⟩ := Jw (s := (numS s 4).2) (k := 4) a1
 obtain ⟨c1, c2, _⟩ := Jw (s := s) (k := 4) b1
 refine ⟨c1, ?_⟩
 rw [show ((4 : Nat) : Int) = 4 from rfl] at b2 c2
 rw [show ((2 : Nat) : Int) = 2 from rfl] at a2
 rw [b2, a2] at c2
 rw [c2]
 simp [locB, locS]
theorem locsL_inv : ∀ (k : Nat) (s : Src) (acc : List Lc), (locsL k s acc).2.2 = false → ∃ ls, (locsL k s acc).1 = acc ++ ls ∧ ls.length = k ∧ s.2 = false ∧ s.1 = locsB ls ++ (locsL k s acc).2.1
 | 0, s, acc, h => ⟨[], by simp [locsL], rfl, h, by simp [locsL, locsB]⟩
 | k + 1, s, acc, h => by
   rw [locsL] at h ⊢
   by_cases hc : (locS s).2.2 = true
   ·rw [if_pos hc] at h
    rw [hc] at h
    cases h
   ·rw [if_neg hc] at h ⊢
    obtain ⟨ls, h1, h2, h3, h4⟩ := locsL_inv k _ _ h
    obtain ⟨g1, g2⟩ := Zp4 h3
    refine ⟨(locS s).1 :: ls, by rw [h1]; simp, by simp [h2], g1, ?_⟩
    rw [g2, h4]
    simp [locsB]
theorem Zn5 {s : Src} (h : (locsS s).2.2 = false) : s.2 = false ∧ s.1 = numB ((locsS s).1.length : Int) 2 ++ (locsB (locsS s).1 ++ (locsS s).2.1) := by
 have h0 : 0 ≤ (numS s 2).1 := (Zb8 _).1
 obtain ⟨ls, h1, h2, h3, h4⟩ := locsL_inv _ _ _ h
 obtain ⟨g1, g2, _⟩ := Jw (s := s) (k := 2) h3
 rw [List.nil_append] at h1
 have h1' : (locsS s).1 = ls := h1
 refine ⟨g1, ?_⟩
 rw [show ((2 : Nat) : Int) = 2 from rfl] at g2
 rw [h4] at g2
 rw [h1', h2, show ((numS s 2).1.toNat : Int) = (numS s 2).1 by omega]
 exact g2
theorem Zp5 {k : Int} {bs : List UInt8} (hk : k = 1 ∨ k = 2 ∨ k = 3 ∨ k = 4) (h : (partS k (bs, false)).2.2 = false ∧ (partS k (bs, false)).2.1 = []) : bs = bodyR { (partS k (bs, false)).1 with kind := k } := by
 obtain ⟨h1, h2⟩ := h
 rcases hk with rfl | rfl | rfl | rfl
 ·have h1 : (Zad (bs, false)).2.2 = false := h1
  obtain ⟨a1, a2⟩ := Zei (s := (numS (numS (bs, false) 6).2 2).2) h1
  obtain ⟨b1, b2, _⟩ := Jw (s := (numS (bs, false) 6).2) (k := 2) a1
  obtain ⟨c1, c2, _⟩ := Jw (s := (bs, false)) (k := 6) b1
  rw [show ((2 : Nat) : Int) = 2 from rfl] at b2
  rw [show ((6 : Nat) : Int) = 6 from rfl] at c2
  rw [b2, a2] at c2
  exact c2
 ·have h1 : (rootS (bs, false)).2.2 = false := h1
  have h2 : (rootS (bs, false)).2.1 = [] := h2
  obtain ⟨a1, a2⟩ := Zn5 (s := (numS (numS (keyS (bs, false)).2 6).2 3).2) h1
  obtain ⟨b1, b2, _⟩ := Jw (s := (numS (keyS (bs, false)).2 6).2) (k := 3) a1
  obtain ⟨c1, c2, _⟩ := Jw (s := (keyS (bs, false)).2) (k := 6) b1
  obtain ⟨d1, d2⟩ := Zj2 (s := (bs, false)) c1
  have h3 : (locsS (numS (numS (keyS (bs, false)).2 6).2 3).2).2.1 = [] := h2
  rw [h3, List.append_nil] at a2
  rw [show ((3 : Nat) : Int) = 3 from rfl] at b2
  rw [show ((6 : Nat) : Int) = 6 from rfl] at c2
  rw [c2, b2, a2] at d2
  exact d2
 ·have h1 : (Yz (bs, false)).2.2 = false := h1
  obtain ⟨a1, a2⟩ := Zei (s := (keyS (bs, false)).2) h1
  obtain ⟨d1, d2⟩ := Zj2 (s := (bs, false)) a1
  rw [a2] at d2
  exact d2
 ·have h1 : (tombS (bs, false)).2.2 = false := h1
  obtain ⟨a1, a2⟩ := Zei (s := (bs, false)) h1
  exact a2
theorem Zk9 (c : UInt8) : byteI (c.toNat : Int) = c := by
 apply UInt8.toNat_inj.1
 have := Z9 (c.toNat : Int)
 have := c.toNat_lt
 omega
theorem Zi3 {bs : List UInt8} {r : Rc} (h : getR bs = some r) : Zx r ∧ putR r = bs := by
 match bs, h with
 | [], h => cases h
 | c :: bs, h =>
   rw [Zfn] at h
   by_cases hk : 1 ≤ c.toNat ∧ c.toNat ≤ 4
   ·rw [if_pos hk] at h
    by_cases hc : ((partS c.toNat (bs, false)).2.2 = false ∧ (partS c.toNat (bs, false)).2.1 = []) ∧ Zx { (partS c.toNat (bs, false)).1 with kind := c.toNat }
    ·rw [if_pos hc] at h
     injection h with h
     subst h
     refine ⟨hc.2, ?_⟩
     have hb := Zp5 (k := (c.toNat : Int)) (by omega) hc.1
     unfold putR
     rw [if_pos hc.2, ← hb]
     congr 1
     exact Zk9 c
    ·rw [if_neg hc] at h
     cases h
   ·rw [if_neg hk] at h
    cases h
/-! How long bytes are. -/
theorem Zi4 {r : Rc} (h : Zx r) : ((putR r).length : Int) = (if r.kind = 2 then 13 + (r.key.length : Int) + 10 * (r.locs.length : Int) else if r.kind = 3 then 2 + (r.key.length : Int) + (r.b.length : Int) else if r.kind = 4 then 1 + (r.key.length : Int) else 9 + (r.b.length : Int)) := by
 have hr := Zbz h
 unfold putR bodyR
 rw [if_pos h]
 rcases hr with e | e | e | e <;> simp [e, Zm, keyP, locsB_length] <;> omega
theorem Zj3 {r : Rc} (h : Zx r) : 1 ≤ (putR r).length ∧ (putR r).length ≤ 8192 := by
 have hl := Zi4 h
 unfold Zx at h
 rcases h with ⟨e, h⟩ | ⟨e, h⟩ | ⟨e, h⟩ | ⟨e, h⟩
 ·rw [e] at hl
  simp at hl
  have := h.2.2.2.2.2
  omega
 ·rw [e] at hl
  simp at hl
  have h1 := h.2.2.1.2
  have h2 := h.2.2.2.2.2.1
  omega
 ·rw [e] at hl
  simp at hl
  have h1 := h.2.1.2
  have h2 := h.2.2
  omega
 ·rw [e] at hl
  simp at hl
  have h1 := h.2.1.2
  omega
theorem Zgk {r : Rc} (h : ¬ Zx r) : putR r = [] := by unfold putR; rw [if_neg h]
theorem Zej (r : Rc) : (putR r).length ≤ 8192 := by
 by_cases h : Zx r
 ·exact (Zj3 h).2
 ·rw [Zgk h]; simp
theorem Zp6 {r : Rc} (h : Zx r) : ∃ bs, putR r = byteI r.kind :: bs := ⟨bodyR r, by unfold putR; rw [if_pos h]⟩
open Go.Lib (hid)
open Go.RowKit
def frS (r : Rc) : List UInt8 := putB (putR r)
def addP (m : Dk) (n : Int) (r : Rc) : Dk × (Int × Int × Int) :=
 if Zx r then (if (m.append (nmS n) (frS r)).2 = 0 then ((m.append (nmS n) (frS r)).1, ((m.size (nmS n)).1, ((frS r).length : Nat), 0)) else ((m.append (nmS n) (frS r)).1, (0, 0, (m.append (nmS n) (frS r)).2)))
 else (m, (0, 0, 1))
section
variable {B d K : Nat} {w0 w : World} {out : Nat → Prop} {m : Dk}
set_option maxRecDepth 100000 in
set_option maxHeartbeats 4000000 in
theorem Zax (w : World) (n : Int) (r : Rc) {LA : Option Addr} {ln lc : Nat} {BA : Option Addr} {bn bc : Nat} (hin : RcIn w LA ln lc BA bn bc r) (h : DkIn B w0 w d out m) (ok : DkOk K m) (hK : K ≤ 100000000) :
 Calls Tryz.prog 16 #[.pointer (some ⟨d, 0, none⟩), .int .i64 n, .agg #[.int .i64 r.kind, .string ⟨r.key.toArray⟩, .int .i64 r.id, .int .i64 r.no, .int .i64 r.size, .slice LA ln lc, .slice BA bn bc]] w fun e w' => e = .returned (.tuple #[.int .i64 (addP m n r).2.1, .int .i64 (addP m n r).2.2.1, .int .i64 (addP m n r).2.2.2]) ∧ DkIn B w0 w' d out (addP m n r).1 ∧ Stays B out w w' := by
 have HO := hid (fun w' => Zab w' d n)
 have H := hid h
 have HOK := hid (And.intro ok hK)
 have HNS := hid (Zac n)
 have hri := fun w' (hg : Grows w w') => Ziz r LA ln lc BA bn bc w' (hin.grow hg)
 have hpu := fun w' (hg : Grows w w') => Zrp r LA ln lc BA bn bc w' (hin.grow hg)
 have hbody : (putR r).length ≤ 8192 := Zej r
 have HPL := hid hbody
 obtain ⟨pr, hpr⟩ : ∃ p, putR r = p := ⟨_, rfl⟩
 rw [hpr] at HPL hbody
 unfold addP frS
 rw [hpr]
 simp only [hpr] at hpu
 obtain ⟨⟨sv, sb⟩, hsz⟩ : ∃ q, m.size (nmS n) = q := ⟨_, rfl⟩
 have HSZ := hid (fun w' (hg : Grows w w') => Zb7 w' n (h.grow hg) hsz)
 rw [hsz]
 unfold segV at HO HSZ
 obtain ⟨v2, hv2⟩ : ∃ v, (m.append (nmS n) (putB pr)).2 = v := ⟨_, rfl⟩
 obtain ⟨m2, hm2⟩ : ∃ v, (m.append (nmS n) (putB pr)).1 = v := ⟨_, rfl⟩
 rw [hv2, hm2]
 obtain ⟨s, hs⟩ : ∃ s : ByteArray, (⟨(nmS n).toArray⟩ : ByteArray) = s := ⟨_, rfl⟩
 rw [hs] at HO HSZ
 have HV := hid (And.intro hv2 (And.intro hm2 hs))
 have hpb := Je (b := pr)
 obtain ⟨fl, hfl⟩ : ∃ k, (putB pr).length = k := ⟨_, rfl⟩
 rw [hfl] at hpb ⊢
 have HFL := hid hfl
 obtain ⟨kd, ks0, id, no, sz, ls, rb⟩ := r
 dsimp only at hri hpu ⊢
 obtain ⟨ks, hks⟩ : ∃ s : ByteArray, (⟨ks0.toArray⟩ : ByteArray) = s := ⟨_, rfl⟩
 rw [hks] at hri hpu ⊢
 obtain ⟨rr, hrr⟩ : ∃ q, decide (Zx ⟨kd, ks0, id, no, sz, ls, rb⟩) = q := ⟨_, rfl⟩
 simp only [hrr] at hri
 have HRI := hid hri
 have HPU := hid hpu
 clear h ok hK hri hpu hsz hs hv2 hm2 hfl hks hpr hin
 cases rr with
 | false =>
   rw [if_neg (of_decide_eq_false hrr)]
   clear hrr
   go_enter Tryz.func16, Tryz.ntmps16
   have hwm := Whole.made w 33 #[.int .i64 kd, .string ks, .int .i64 id, .int .i64 no, .int .i64 sz, .slice LA ln lc, .slice BA bn bc]
   have c0 := hwm.cell 0
   have c1 := hwm.cell 1
   have c2 := hwm.cell 2
   have c3 := hwm.cell 3
   have c4 := hwm.cell 4
   have c5 := hwm.cell 5
   have c6 := hwm.cell 6
   simp only [Gt] at c0 c1 c2 c3 c4 c5 c6
   have HWM := hid hwm
   clear hwm
   go_wp2_with (fail)
   refine (HRI.out _ (Zb w _)).mono ?_
   rintro e w1 ⟨rfl, hg1⟩
   have HG1 := hid (show Grows w w1 from Grows.trans (Zb w (.cells #[.int .i64 kd, .string ks, .int .i64 id, .int .i64 no, .int .i64 sz, .slice LA ln lc, .slice BA bn bc] 33)) hg1)
   have HW1 := hid (Grows.whole hg1 HWM.out)
   clear hg1 c0 c1 c2 c3 c4 c5 c6
   go_wp2_with (fail)
   go_ret3
   exact ⟨rfl, H.out.grow HG1.out, Stays.grows HG1.out⟩
 | true =>
   rw [if_pos (of_decide_eq_true hrr)]
   clear hrr
   by_cases hz : v2 = 0
   ·subst hz
    rw [if_pos rfl]
    go_enter Tryz.func16, Tryz.ntmps16
    have hwm := Whole.made w 33 #[.int .i64 kd, .string ks, .int .i64 id, .int .i64 no, .int .i64 sz, .slice LA ln lc, .slice BA bn bc]
    have c0 := hwm.cell 0
    have c1 := hwm.cell 1
    have c2 := hwm.cell 2
    have c3 := hwm.cell 3
    have c4 := hwm.cell 4
    have c5 := hwm.cell 5
    have c6 := hwm.cell 6
    simp only [Gt] at c0 c1 c2 c3 c4 c5 c6
    have HWM := hid hwm
    clear hwm
    go_wp2_with (fail)
    refine (HRI.out _ (Zb w _)).mono ?_
    rintro e w1 ⟨rfl, hg1⟩
    have HG1 := hid (show Grows w w1 from Grows.trans (Zb w (.cells #[.int .i64 kd, .string ks, .int .i64 id, .int .i64 no, .int .i64 sz, .slice LA ln lc, .slice BA bn bc] 33)) hg1)
    have HW1 := hid (Grows.whole hg1 HWM.out)
    clear hg1 c0 c1 c2 c3 c4 c5 c6
    go_wp2_with (fail)
    refine (HO.out w1).mono ?_
    rintro e w2 ⟨rfl, hg2⟩
    have HG2 := hid (Grows.trans HG1.out hg2)
    have HW2 := hid (hg2.whole HW1.out)
    clear hg2
    have hsm := Whole.made w2 77 #[.pointer (some ⟨d, 0, none⟩), .int .i64 n, .string s]
    have HSM := hid hsm
    have HG3 := hid (Zb w2 (.cells #[.pointer (some ⟨d, 0, none⟩), .int .i64 n, .string s] 77))
    clear hsm
    go_wp2_with (fail)
    generalize hw3 : w2.alloc (.cells #[.pointer (some ⟨d, 0, none⟩), .int .i64 n, .string s] 77) = w3 at *
    clear hw3
    have HW3 := hid (HG3.out.whole HW2.out)
    have HGT := hid (Grows.trans HG2.out HG3.out)
    have HC := hid (show ∀ w', Grows w3 w' → (w'.cell? { block := w.heap.size, off := 0 } = some (.int .i64 kd) ∧ w'.cell? { block := w.heap.size, off := 1 } = some (.string ks) ∧ w'.cell? { block := w.heap.size, off := 2 } = some (.int .i64 id) ∧ w'.cell? { block := w.heap.size, off := 3 } = some (.int .i64 no) ∧ w'.cell? { block := w.heap.size, off := 4 } = some (.int .i64 sz) ∧ w'.cell? { block := w.heap.size, off := 5 } = some (.slice LA ln lc) ∧ w'.cell? { block := w.heap.size, off := 6 } = some (.slice BA bn bc)) ∧
     (w'.cell? { block := w2.heap.size, off := 0 } = some (.pointer (some ⟨d, 0, none⟩)) ∧ w'.cell? { block := w2.heap.size, off := 1 } = some (.int .i64 n) ∧ w'.cell? { block := w2.heap.size, off := 2 } = some (.string s)) from fun w' hC => by
     have hx := hC.whole HW3.out
     have hy := hC.whole HSM.out
     exact ⟨⟨hx.cell 0, hx.cell 1, hx.cell 2, hx.cell 3, hx.cell 4, hx.cell 5, hx.cell 6⟩, hy.cell 0, hy.cell 1, hy.cell 2⟩)
    refine Zh (E := Grows) 5 [Za (.agg #[.int .i64 kd, .string ks, .int .i64 id, .int .i64 no, .int .i64 sz, .slice LA ln lc, .slice BA bn bc]), Zb6 w3 (pr), Zb6 w3 (putB pr), Za (.agg #[.pointer (some ⟨d, 0, none⟩), .int .i64 n, .string s]), Za (.int .i64 sv)] mixed (by kernel_rfl) (fun _ _ _ => Grows.trans) (Ze _) ?_
    simp only [List.take_succ_cons, List.take_zero, List.drop_succ_cons, List.drop_zero]
    refine f_val _ (by rfl) ?_ ?_
    ·intro w' hC; obtain ⟨⟨z0, z1, z2, z3, z4, z5, z6⟩, y0, y1, y2⟩ := HC.out w' hC; clear hC; go_simp
    simp only [Pu]
    refine f_own (pr) 48 #[.agg #[.int .i64 kd, .string ks, .int .i64 id, .int .i64 no, .int .i64 sz, .slice LA ln lc, .slice BA bn bc]] (by rfl) (by intro w' hC; clear hC; go_simp) ?_ ?_
    ·intro w' hC hks; exact HPU.out w' (Grows.trans HGT.out hC)
    intro RA rc
    simp only [Pu]
    refine f_own (putB pr) 44 #[.slice RA pr.length rc] (by rfl) (by intro w' hC; clear hC; go_simp) ?_ ?_
    ·intro w' hC hks; exact Zde _ _ _ _ w' (Sl.owned (Known.get hks 0 rfl rfl)) (by have := HPL.out; unfold maxLen; omega)
    intro PA pc
    simp only [Pu]
    refine f_val _ (by rfl) ?_ ?_
    ·intro w' hC; obtain ⟨⟨z0, z1, z2, z3, z4, z5, z6⟩, y0, y1, y2⟩ := HC.out w' hC; clear hC; go_simp
    simp only [Pu]
    refine Jb 39 #[.agg #[.pointer (some ⟨d, 0, none⟩), .int .i64 n, .string s]] (.int .i64 sv) (by rfl) (by intro w' hC; clear hC; go_simp) ?_ ?_
    ·intro w' hC hks; exact HSZ.out w' (Grows.trans HGT.out hC)
    simp only [Pu]
    refine Zv ?_
    intro w6 hC hks
    have HCw6 := hid hC
    have HK := hid (Known.at hks 0 rfl)
    clear hC hks
    have hd6 := (H.out.grow HGT.out).news HCw6.out
    have hsl := HK.out
    rw [HFL.out] at hsl
    have hoff := Zf4 hsl
    have HAP := hid (Zcb (nmS n) hd6 HOK.out.1 (by have := HOK.out.2; omega) (by have := HNS.out; omega) (Sl.owned hsl) (fun ad e _ => .inr (.inr (hoff ad e))) (by omega) HV.out.1 HV.out.2.1)
    rw [HV.out.2.2] at HAP
    rw [HFL.out]
    obtain ⟨⟨z0, z1, z2, z3, z4, z5, z6⟩, y0, y1, y2⟩ := HC.out w6 HCw6.out
    clear hd6 hoff hsl z0 z1 z2 z3 z4 z5 z6 y1
    go_wp2_with (fail)
    refine HAP.out.mono ?_
    rintro e w7 ⟨rfl, hd7, hs7⟩
    have HS7 := hid ((Stays.grows HGT.out).trans ((Stays.grows HCw6.out).trans (hs7.less fun k hk => .inl hk)))
    have HD7 := hid (hd7.less (out' := out) fun k hk => .inl hk)
    clear hd7 hs7
    go_wp2_with (fail)
    go_ret3
    exact ⟨rfl, HD7.out, HS7.out⟩
   ·have hzb : (v2 != 0) = true := by rw [bne_iff_ne]; exact hz
    rw [if_neg hz]
    clear hz
    go_enter Tryz.func16, Tryz.ntmps16
    have hwm := Whole.made w 33 #[.int .i64 kd, .string ks, .int .i64 id, .int .i64 no, .int .i64 sz, .slice LA ln lc, .slice BA bn bc]
    have c0 := hwm.cell 0
    have c1 := hwm.cell 1
    have c2 := hwm.cell 2
    have c3 := hwm.cell 3
    have c4 := hwm.cell 4
    have c5 := hwm.cell 5
    have c6 := hwm.cell 6
    simp only [Gt] at c0 c1 c2 c3 c4 c5 c6
    have HWM := hid hwm
    clear hwm
    go_wp2_with (fail)
    refine (HRI.out _ (Zb w _)).mono ?_
    rintro e w1 ⟨rfl, hg1⟩
    have HG1 := hid (show Grows w w1 from Grows.trans (Zb w (.cells #[.int .i64 kd, .string ks, .int .i64 id, .int .i64 no, .int .i64 sz, .slice LA ln lc, .slice BA bn bc] 33)) hg1)
    have HW1 := hid (Grows.whole hg1 HWM.out)
    clear hg1 c0 c1 c2 c3 c4 c5 c6
    go_wp2_with (fail)
    refine (HO.out w1).mono ?_
    rintro e w2 ⟨rfl, hg2⟩
    have HG2 := hid (Grows.trans HG1.out hg2)
    have HW2 := hid (hg2.whole HW1.out)
    clear hg2
    have hsm := Whole.made w2 77 #[.pointer (some ⟨d, 0, none⟩), .int .i64 n, .string s]
    have HSM := hid hsm
    have HG3 := hid (Zb w2 (.cells #[.pointer (some ⟨d, 0, none⟩), .int .i64 n, .string s] 77))
    clear hsm
    go_wp2_with (fail)
    generalize hw3 : w2.alloc (.cells #[.pointer (some ⟨d, 0, none⟩), .int .i64 n, .string s] 77) = w3 at *
    clear hw3
    have HW3 := hid (HG3.out.whole HW2.out)
    have HGT := hid (Grows.trans HG2.out HG3.out)
    have HC := hid (show ∀ w', Grows w3 w' → (w'.cell? { block := w.heap.size, off := 0 } = some (.int .i64 kd) ∧ w'.cell? { block := w.heap.size, off := 1 } = some (.string ks) ∧ w'.cell? { block := w.heap.size, off := 2 } = some (.int .i64 id) ∧ w'.cell? { block := w.heap.size, off := 3 } = some (.int .i64 no) ∧ w'.cell? { block := w.heap.size, off := 4 } = some (.int .i64 sz) ∧ w'.cell? { block := w.heap.size, off := 5 } = some (.slice LA ln lc) ∧ w'.cell? { block := w.heap.size, off := 6 } = some (.slice BA bn bc)) ∧
     (w'.cell? { block := w2.heap.size, off := 0 } = some (.pointer (some ⟨d, 0, none⟩)) ∧ w'.cell? { block := w2.heap.size, off := 1 } = some (.int .i64 n) ∧ w'.cell? { block := w2.heap.size, off := 2 } = some (.string s)) from fun w' hC => by
     have hx := hC.whole HW3.out
     have hy := hC.whole HSM.out
     exact ⟨⟨hx.cell 0, hx.cell 1, hx.cell 2, hx.cell 3, hx.cell 4, hx.cell 5, hx.cell 6⟩, hy.cell 0, hy.cell 1, hy.cell 2⟩)
    refine Zh (E := Grows) 5 [Za (.agg #[.int .i64 kd, .string ks, .int .i64 id, .int .i64 no, .int .i64 sz, .slice LA ln lc, .slice BA bn bc]), Zb6 w3 (pr), Zb6 w3 (putB pr), Za (.agg #[.pointer (some ⟨d, 0, none⟩), .int .i64 n, .string s]), Za (.int .i64 sv)] mixed (by kernel_rfl) (fun _ _ _ => Grows.trans) (Ze _) ?_
    simp only [List.take_succ_cons, List.take_zero, List.drop_succ_cons, List.drop_zero]
    refine f_val _ (by rfl) ?_ ?_
    ·intro w' hC; obtain ⟨⟨z0, z1, z2, z3, z4, z5, z6⟩, y0, y1, y2⟩ := HC.out w' hC; clear hC; go_simp
    simp only [Pu]
    refine f_own (pr) 48 #[.agg #[.int .i64 kd, .string ks, .int .i64 id, .int .i64 no, .int .i64 sz, .slice LA ln lc, .slice BA bn bc]] (by rfl) (by intro w' hC; clear hC; go_simp) ?_ ?_
    ·intro w' hC hks; exact HPU.out w' (Grows.trans HGT.out hC)
    intro RA rc
    simp only [Pu]
    refine f_own (putB pr) 44 #[.slice RA pr.length rc] (by rfl) (by intro w' hC; clear hC; go_simp) ?_ ?_
    ·intro w' hC hks; exact Zde _ _ _ _ w' (Sl.owned (Known.get hks 0 rfl rfl)) (by have := HPL.out; unfold maxLen; omega)
    intro PA pc
    simp only [Pu]
    refine f_val _ (by rfl) ?_ ?_
    ·intro w' hC; obtain ⟨⟨z0, z1, z2, z3, z4, z5, z6⟩, y0, y1, y2⟩ := HC.out w' hC; clear hC; go_simp
    simp only [Pu]
    refine Jb 39 #[.agg #[.pointer (some ⟨d, 0, none⟩), .int .i64 n, .string s]] (.int .i64 sv) (by rfl) (by intro w' hC; clear hC; go_simp) ?_ ?_
    ·intro w' hC hks; exact HSZ.out w' (Grows.trans HGT.out hC)
    simp only [Pu]
    refine Zv ?_
    intro w6 hC hks
    have HCw6 := hid hC
    have HK := hid (Known.at hks 0 rfl)
    clear hC hks
    have hd6 := (H.out.grow HGT.out).news HCw6.out
    have hsl := HK.out
    rw [HFL.out] at hsl
    have hoff := Zf4 hsl
    have HAP := hid (Zcb (nmS n) hd6 HOK.out.1 (by have := HOK.out.2; omega) (by have := HNS.out; omega) (Sl.owned hsl) (fun ad e _ => .inr (.inr (hoff ad e))) (by omega) HV.out.1 HV.out.2.1)
    rw [HV.out.2.2] at HAP
    rw [HFL.out]
    obtain ⟨⟨z0, z1, z2, z3, z4, z5, z6⟩, y0, y1, y2⟩ := HC.out w6 HCw6.out
    clear hd6 hoff hsl z0 z1 z2 z3 z4 z5 z6 y1
    go_wp2_with (fail)
    refine HAP.out.mono ?_
    rintro e w7 ⟨rfl, hd7, hs7⟩
    have HS7 := hid ((Stays.grows HGT.out).trans ((Stays.grows HCw6.out).trans (hs7.less fun k hk => .inl hk)))
    have HD7 := hid (hd7.less (out' := out) fun k hk => .inl hk)
    clear hd7 hs7
    go_wp2_with (fail)
    go_ret3
    exact ⟨rfl, HD7.out, HS7.out⟩
end
end Go.Proofs.YtlldcogkcjnejaaGreat
