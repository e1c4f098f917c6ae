import Derived.Test.YtlldcogkcjnejaaGreatMG16
import Derived.Test.YtlldcogkcjnejaaGreatMG07
import Derived.Laws.Rows
import Derived.Test.YtlldcogkcjnejaaGreatMG17
import Derived.Test.YtlldcogkcjnejaaGreatMG02
set_option linter.unusedVariables false
namespace Go.Proofs.YtlldcogkcjnejaaGreat
abbrev Lc := Int × Int × Int
structure Rc where
 kind : Int
 key : List UInt8
 id : Int
 no : Int
 size : Int
 locs : List Lc
 b : List UInt8
 deriving DecidableEq
def Rc.none : Rc := ⟨0, [], 0, 0, 0, [], []⟩
def LocOk (l : Lc) : Prop := (0 ≤ l.1 ∧ l.1 ≤ 99999999) ∧ (0 ≤ l.2.1 ∧ l.2.1 ≤ 1073741824) ∧ (1 ≤ l.2.2 ∧ l.2.2 ≤ 4096)
instance (l : Lc) : Decidable (LocOk l) := by unfold LocOk; infer_instance
def sumN : List Lc → Int
 | [] => 0
 | l :: ls => l.2.2 + sumN ls
def KeyOk (k : List UInt8) : Prop := 1 ≤ k.length ∧ k.length ≤ 64
instance (k : List UInt8) : Decidable (KeyOk k) := by unfold KeyOk; infer_instance
def IdOk (i : Int) : Prop := 0 ≤ i ∧ i ≤ 1099511627776
instance (i : Int) : Decidable (IdOk i) := by unfold IdOk; infer_instance
def Yl (ls : List Lc) (size : Int) : Prop := ls.length ≤ 512 ∧ (∀ l ∈ ls, LocOk l) ∧ sumN ls = size
instance (ls : List Lc) (size : Int) : Decidable (Yl ls size) := by unfold Yl; infer_instance
def Bare (r : Rc) : Prop := r.id = 0 ∧ r.no = 0 ∧ r.size = 0 ∧ r.locs.length = 0
def Jf (r : Rc) : Prop := r.key.length < 1 ∧ r.size = 0 ∧ r.locs.length = 0 ∧ IdOk r.id ∧ (0 ≤ r.no ∧ r.no ≤ 511) ∧ 1 ≤ r.b.length ∧ r.b.length ≤ 4096
def Zbd (r : Rc) : Prop := r.no = 0 ∧ r.b.length = 0 ∧ KeyOk r.key ∧ IdOk r.id ∧ (1 ≤ r.size ∧ r.size ≤ 65536) ∧ Yl r.locs r.size
def Yx (r : Rc) : Prop := Bare r ∧ KeyOk r.key ∧ r.b.length ≤ 4096
def Zbe (r : Rc) : Prop := Bare r ∧ KeyOk r.key ∧ r.b.length = 0
def Zx (r : Rc) : Prop := (r.kind = 1 ∧ Jf r) ∨ (r.kind = 2 ∧ Zbd r) ∨ (r.kind = 3 ∧ Yx r) ∨ (r.kind = 4 ∧ Zbe r)
instance (r : Rc) : Decidable (Zx r) := by unfold Zx Jf Zbd Yx Zbe Bare; infer_instance
def byteI (n : Int) : UInt8 := UInt8.ofNat (n % 256).toNat
theorem Z9 (n : Int) : ((byteI n).toNat : Int) = n % 256 := by
 unfold byteI
 rw [UInt8.toNat_ofNat']
 omega
def numB (n : Int) : Nat → List UInt8
 | 0 => []
 | k + 1 => byteI (n / 256 ^ k) :: numB n k
theorem Zm (n : Int) : ∀ k, (numB n k).length = k
 | 0 => rfl
 | k + 1 => by rw [numB, List.length_cons, Zm n k]
def valB (bs : List UInt8) : Int := bs.foldl (fun (n : Int) c => 256 * n + (c.toNat : Int)) 0
theorem Zni (bs : List UInt8) (c : UInt8) : valB (bs ++ [c]) = 256 * valB bs + (c.toNat : Int) := by
 unfold valB
 rw [List.foldl_append]
 rfl
theorem Zd1 (c : UInt8) (bs : List UInt8) : valB (c :: bs) = (c.toNat : Int) * 256 ^ bs.length + valB bs := by
 have key : ∀ (bs : List UInt8) (n : Int), bs.foldl (fun (n : Int) c => 256 * n + (c.toNat : Int)) n = n * 256 ^ bs.length + valB bs := by
  intro bs
  induction bs with
  | nil => intro n; simp [valB]
  | cons d bs ih =>
    intro n
    unfold valB
    rw [List.foldl_cons, List.foldl_cons, ih, ih (256 * 0 + _), List.length_cons, Int.pow_succ]
    generalize (256 : Int) ^ bs.length = p
    rw [Int.add_mul, Int.mul_zero, Int.zero_add, Int.add_assoc]
    congr 1
    rw [Int.mul_comm 256 n, Int.mul_assoc, Int.mul_comm 256 p]
 unfold valB
 rw [List.foldl_cons, key, Int.mul_zero, Int.zero_add]
 rfl
theorem Zb8 (bs : List UInt8) : 0 ≤ valB bs ∧ valB bs < 256 ^ bs.length := by
 induction bs with
 | nil => exact ⟨by decide, by decide⟩
 | cons c bs ih =>
   rw [Zd1, List.length_cons, Int.pow_succ]
   have hc : (c.toNat : Int) ≤ 255 := by have := c.toNat_lt; omega
   obtain ⟨h1, h2⟩ := ih
   have hp : (0 : Int) < 256 ^ bs.length := Int.pow_pos (by decide)
   generalize (256 : Int) ^ bs.length = p at *
   have h3 : (c.toNat : Int) * p ≤ 255 * p := Int.mul_le_mul_of_nonneg_right hc (by omega)
   have h4 : 0 ≤ (c.toNat : Int) * p := Int.mul_nonneg (by omega) (by omega)
   omega
theorem Zhk (n : Int) (h0 : 0 ≤ n) : ∀ k, valB (numB n k) = n % 256 ^ k
 | 0 => by simp [numB, valB, Int.emod_one]
 | k + 1 => by
   rw [numB, Zd1, Zm, Zhk n h0 k, Z9, Int.pow_succ]
   have hp : (0 : Int) < 256 ^ k := Int.pow_pos (by decide)
   generalize (256 : Int) ^ k = p at *
   have h1 := Int.emod_add_mul_ediv n p
   have h2 := Int.emod_add_mul_ediv (n / p) 256
   have h3 : n / p / 256 = n / (p * 256) := by rw [Int.ediv_ediv_of_nonneg (by omega)]
   have h4 := Int.emod_add_mul_ediv n (p * 256)
   rw [← h3] at h4
   generalize n / p / 256 = q at *
   generalize n / p = m at *
   generalize m % 256 = x at *
   have h5 : p * m = p * x + p * (256 * q) := by rw [← Int.mul_add, h2]
   have h6 : p * 256 * q = p * (256 * q) := by rw [Int.mul_assoc]
   rw [h6] at h4
   rw [Int.mul_comm x p]
   generalize p * (256 * q) = z at *
   generalize p * x = y at *
   generalize n % (p * 256) = u at *
   generalize n % p = v at *
   generalize p * m = t at *
   omega
theorem Zbp (n : Int) (k : Nat) (h0 : 0 ≤ n) (h : n < 256 ^ k) : valB (numB n k) = n := by
 rw [Zhk n h0 k, Int.emod_eq_of_lt h0 h]
theorem numB_valB : ∀ (bs : List UInt8) (q : Int), numB (q * 256 ^ bs.length + valB bs) bs.length = bs
 | [], _ => rfl
 | c :: bs, q => by
   rw [List.length_cons, numB, Zd1, Int.pow_succ]
   have hb := Zb8 bs
   have hp : (0 : Int) < 256 ^ bs.length := Int.pow_pos (by decide)
   have hc := c.toNat_lt
   have e : q * (256 ^ bs.length * 256) + ((c.toNat : Int) * 256 ^ bs.length + valB bs) = (q * 256 + (c.toNat : Int)) * 256 ^ bs.length + valB bs := by
    generalize (256 : Int) ^ bs.length = p
    rw [Int.add_mul, Int.mul_assoc, Int.mul_comm 256 p]
    omega
   rw [e, numB_valB bs (q * 256 + (c.toNat : Int))]
   congr 1
   have h1 : ((q * 256 + (c.toNat : Int)) * 256 ^ bs.length + valB bs) / 256 ^ bs.length = q * 256 + (c.toNat : Int) := by
    rw [Int.add_comm, Int.add_mul_ediv_right _ _ (by omega), Int.ediv_eq_zero_of_lt hb.1 hb.2, Int.zero_add]
   rw [h1]
   unfold byteI
   apply UInt8.toNat_inj.1
   rw [UInt8.toNat_ofNat']
   omega
theorem Zky (bs : List UInt8) : numB (valB bs) bs.length = bs := by
 have := numB_valB bs 0
 rwa [Int.zero_mul, Int.zero_add] at this
def locB (l : Lc) : List UInt8 := numB l.1 4 ++ (numB l.2.1 4 ++ numB l.2.2 2)
def locsB : List Lc → List UInt8
 | [] => []
 | l :: ls => locB l ++ locsB ls
theorem Zit (l : Lc) : (locB l).length = 10 := by simp [locB, Zm]
theorem locsB_length : ∀ ls, (locsB ls).length = 10 * ls.length
 | [] => rfl
 | l :: ls => by rw [locsB, List.length_append, Zit, locsB_length ls, List.length_cons]; omega
theorem locsB_append : ∀ a b, locsB (a ++ b) = locsB a ++ locsB b
 | [], _ => rfl
 | l :: a, b => by rw [List.cons_append, locsB, locsB, locsB_append a b, List.append_assoc]
def keyP (k : List UInt8) : List UInt8 := byteI k.length :: k
def bodyR (r : Rc) : List UInt8 :=
 if r.kind = 1 then numB r.id 6 ++ (numB r.no 2 ++ r.b)
 else if r.kind = 2 then keyP r.key ++ (numB r.id 6 ++ (numB r.size 3 ++ (numB r.locs.length 2 ++ locsB r.locs)))
 else if r.kind = 3 then keyP r.key ++ r.b
 else r.key
def putR (r : Rc) : List UInt8 := if Zx r then byteI r.kind :: bodyR r else []
abbrev Src := List UInt8 × Bool
def takeS (s : Src) (n : Int) : List UInt8 × Src := if s.2 = true ∨ (s.1.length : Int) < n then ([], (s.1, true)) else (s.1.take n.toNat, (s.1.drop n.toNat, false))
def numS (s : Src) (k : Int) : Int × Src := (valB (takeS s k).1, (takeS s k).2)
def keyS (s : Src) : List UInt8 × Src := takeS (numS s 1).2 (numS s 1).1
def restS (s : Src) : List UInt8 × Src := takeS s s.1.length
def locS (s : Src) : Lc × Src :=
 let x := numS s 4
 let y := numS x.2 4
 let z := numS y.2 2
 ((x.1, y.1, z.1), z.2)
def locsL : Nat → Src → List Lc → List Lc × Src
 | 0, s, acc => (acc, s)
 | k + 1, s, acc => if (locS s).2.2 = true then ([], (locS s).2) else locsL k (locS s).2 (acc ++ [(locS s).1])
def locsS (s : Src) : List Lc × Src := locsL (numS s 2).1.toNat (numS s 2).2 []
def Zad (s : Src) : Rc × Src :=
 let x := numS s 6
 let y := numS x.2 2
 let z := restS y.2
 (⟨0, [], x.1, y.1, 0, [], z.1⟩, z.2)
def rootS (s : Src) : Rc × Src :=
 let k := keyS s
 let x := numS k.2 6
 let y := numS x.2 3
 let z := locsS y.2
 (⟨0, k.1, x.1, 0, y.1, z.1, []⟩, z.2)
def Yz (s : Src) : Rc × Src :=
 let k := keyS s
 let z := restS k.2
 (⟨0, k.1, 0, 0, 0, [], z.1⟩, z.2)
def tombS (s : Src) : Rc × Src := (⟨0, (restS s).1, 0, 0, 0, [], []⟩, (restS s).2)
def partS (k : Int) (s : Src) : Rc × Src := if k = 1 then Zad s else if k = 2 then rootS s else if k = 3 then Yz s else tombS s
def getR : List UInt8 → Option Rc
 | [] => Option.none
 | c :: bs =>
   if 1 ≤ c.toNat ∧ c.toNat ≤ 4 then
    if ((partS c.toNat (bs, false)).2.2 = false ∧ (partS c.toNat (bs, false)).2.1 = []) ∧ Zx { (partS c.toNat (bs, false)).1 with kind := c.toNat } then some { (partS c.toNat (bs, false)).1 with kind := c.toNat } else Option.none
   else Option.none
open Go.Lib (hid)
open Go.RowKit
def nmS (n : Int) : Nm := ofP 1 n
def segV (d : Nat) (n : Int) : Array Value := #[.pointer (some ⟨d, 0, none⟩), .int .i64 n, .string ⟨(nmS n).toArray⟩]
def Zw (n : Int) : List UInt8 := 9 :: numB n 4
theorem Yo (n : Int) : (Zw n).length = 5 := by unfold Zw; rw [List.length_cons, Zm]
set_option maxRecDepth 100000 in
set_option maxHeartbeats 4000000 in
theorem Zab (w : World) (d : Nat) (n : Int) :
 Calls Tryz.prog 38 #[.pointer (some ⟨d, 0, none⟩), .int .i64 n] w fun e w' => e = .returned (.agg (segV d n)) ∧ Grows w w' := by
 unfold segV nmS
 have HO := hid (fun w' => Zkv 1 n w')
 obtain ⟨s, hs⟩ : ∃ s : ByteArray, (⟨(ofP 1 n).toArray⟩ : ByteArray) = s := ⟨_, rfl⟩
 rw [hs] at HO ⊢
 clear hs
 go_enter Tryz.func38, Tryz.ntmps38
 go_wp2_with (fail)
 refine (HO.out _).mono ?_
 rintro e w1 ⟨rfl, hg⟩
 have hm := Grows.whole hg (Whole.made w 77 #[.pointer none, .int .i64 0, .string ⟨#[]⟩])
 have HG := hid (Grows.trans (Zb w _) hg)
 have c0 := hm.cell 0
 have f0 := hm.free 0
 have c1 := hm.cell 1
 have f1 := hm.free 1
 have c2 := hm.cell 2
 have f2 := hm.free 2
 simp only [Gt] at c0 c1 c2
 have HM := hid hm
 clear hm hg
 go_wp2_with (fail)
 have hp := ((HM.out.put 0 (.pointer (some ⟨d, 0, none⟩))).put 1 (.int .i64 n)).put 2 (.string s)
 simp only [List.setIfInBounds_toArray, List.set_cons_zero, List.set_cons_succ] at hp
 refine bodyPost_ret (results_cell_row rfl _ _ w.heap.size _ _ (0, 0) _ rfl hp Tryz.underlying77 rfl (by kernel_rfl)) rfl ?_
 refine ⟨rfl, ?_⟩
 exact ((HG.out.setCell (Nat.le_refl _) _).setCell (Nat.le_refl _) _).setCell (Nat.le_refl _) _
theorem Zac (n : Int) : (nmS n).length ≤ 16 := by
 unfold nmS ofP
 repeat' split
 all_goals simp [Yk]
theorem Zb2 (n : Int) : (#[.int .u8 9, .int .u8 (n / 16777216 % 256), .int .u8 (n / 65536 % 256), .int .u8 (n / 256 % 256), .int .u8 (n % 256)] : Array Value) = ((Zw n).map byteV).toArray := by
 have h3 := Z9 (n / 256 ^ 3)
 have h2 := Z9 (n / 256 ^ 2)
 have h1 := Z9 (n / 256 ^ 1)
 have h0 := Z9 (n / 256 ^ 0)
 unfold Zw numB numB numB numB numB
 simp only [List.map_cons, List.map_nil, byteV]
 rw [h3, h2, h1, h0]
 have e3 : n / 256 ^ 3 % 256 = n / 16777216 % 256 := by rw [show (256 : Int) ^ 3 = 16777216 by decide]
 have e2 : n / 256 ^ 2 % 256 = n / 65536 % 256 := by rw [show (256 : Int) ^ 2 = 65536 by decide]
 have e1 : n / 256 ^ 1 % 256 = n / 256 % 256 := by rw [show (256 : Int) ^ 1 = 256 by decide]
 have e0 : n / 256 ^ 0 % 256 = n % 256 := by rw [show (256 : Int) ^ 0 = 1 by decide, Int.ediv_one]
 rw [e3, e2, e1, e0]
 rfl
section
variable {B d K : Nat} {w0 w : World} {out : Nat → Prop} {m : Dk}
set_option maxRecDepth 100000 in
set_option maxHeartbeats 4000000 in
theorem Zb7 (w : World) (n : Int) (h : DkIn B w0 w d out m) {v : Int} {b : Bool} (hv : m.size (nmS n) = (v, b)) :
 Calls Tryz.prog 39 #[.agg (segV d n)] w fun e w' => e = .returned (.int .i64 v) ∧ Grows w w' := by
 have hm := Whole.made w 77 (segV d n)
 have HS := hid (Zq6 (nmS n) (h.grow (Zb w (.cells (segV d n) 77))) (by have := Zac n; omega) hv)
 unfold segV at hm HS ⊢
 obtain ⟨s, hs⟩ : ∃ s : ByteArray, (⟨(nmS n).toArray⟩ : ByteArray) = s := ⟨_, rfl⟩
 rw [hs] at HS hm ⊢
 have c0 := hm.cell 0
 have c2 := hm.cell 2
 simp only [Gt] at c0 c2
 clear h hv hs hm
 go_enter Tryz.func39, Tryz.ntmps39
 go_wp2_with (fail)
 refine HS.out.mono ?_
 rintro e w1 ⟨rfl, rfl⟩
 go_wp2_with (fail)
 go_ret
 exact ⟨rfl, Zb _ _⟩
set_option maxRecDepth 100000 in
set_option maxHeartbeats 4000000 in
theorem Zcj (w : World) (n : Int) (h : DkIn B w0 w d out m) {v : Int} {b : Bool} (hv : m.size (nmS n) = (v, b)) :
 Calls Tryz.prog 9 #[.pointer (some ⟨d, 0, none⟩), .int .i64 n] w fun e w' => e = .returned (.int .i64 v) ∧ Grows w w' := by
 have HO := hid (Zab w d n)
 have HS := hid (fun w' (hg : Grows w w') => Zb7 w' n (h.grow hg) hv)
 obtain ⟨sv, hs⟩ : ∃ sv : Array Value, segV d n = sv := ⟨_, rfl⟩
 rw [hs] at HO HS
 clear h hv hs
 go_enter Tryz.func9, Tryz.ntmps9
 go_wp2_with (fail)
 refine HO.out.mono ?_
 rintro e w1 ⟨rfl, hg⟩
 have HG := hid hg
 clear hg
 go_wp2_with (fail)
 refine (HS.out w1 HG.out).mono ?_
 rintro e w2 ⟨rfl, hg2⟩
 have HG2 := hid (Grows.trans HG.out hg2)
 clear hg2
 go_wp2_with (fail)
 go_ret
 exact ⟨rfl, HG2.out⟩
set_option maxRecDepth 100000 in
set_option maxHeartbeats 4000000 in
theorem Zc3 (w : World) (d : Nat) (n : Int) (hn : -9223372036854775808 ≤ n ∧ n ≤ 9223372036854775807) :
 Calls Tryz.prog 45 #[.agg (segV d n)] w fun e w' => ∃ g, e = .returned (.slice (some ⟨g, 0, none⟩) 5 5) ∧ w.heap.size ≤ g ∧ Sl w' (some ⟨g, 0, none⟩) 5 5 (Zw n) ∧ Grows w w' := by
 have hm := Whole.made w 77 (segV d n)
 unfold segV at hm ⊢
 obtain ⟨s, hs⟩ : ∃ s : ByteArray, (⟨(nmS n).toArray⟩ : ByteArray) = s := ⟨_, rfl⟩
 rw [hs] at hm ⊢
 have c1 := hm.cell 1
 simp only [Gt] at c1
 clear hs hm
 go_enter Tryz.func45, Tryz.ntmps45
 go_wp2_with (fail)
 go_ret
 have hw := Whole.made (w.alloc (.cells #[.pointer (some ⟨d, 0, none⟩), .int .i64 n, .string s] 77)) 5 #[.int .u8 9, .int .u8 (n / 16777216 % 256), .int .u8 (n / 65536 % 256), .int .u8 (n / 256 % 256), .int .u8 (n % 256)]
 rw [World.size_alloc] at hw
 exact ⟨w.heap.size + 1, rfl, by omega, hw.sl (Zw n) (Zb2 n) (Yo n), Grows.trans (Zb _ _) (Zb _ _)⟩
end
theorem Znj (A : Option Addr) (n c : Nat) (w : World) (hn : n ≤ maxLen) (h : ¬ (1 ≤ n ∧ n ≤ 8192)) :
 Calls Tryz.prog 44 #[.slice A n c] w fun e w' => e = .returned (.slice none 0 0) ∧ Below w.heap.size w w' := by
 unfold maxLen at hn
 have hz : sizeN n = 0 := by unfold sizeN; rw [if_neg (by omega)]
 go_enter Tryz.func44, Tryz.ntmps44
 go_wp2_with (fail)
 refine (Jn _ _ (by omega) (by omega)).mono ?_
 rintro e w1 ⟨rfl, rfl⟩
 go_wp2_with (fail)
 go_ret
 exact ⟨rfl, Below.refl _ _⟩
set_option maxRecDepth 100000 in
set_option maxHeartbeats 2000000 in
theorem Zps (A : Option Addr) (n c : Nat) (bs : List UInt8) (w : World) (hs : Sl w A n c bs) (h1 : 1 ≤ n) (h2 : n ≤ 8192) :
 Calls Tryz.prog 44 #[.slice A n c] w fun e w' => ∃ A' c', e = .returned (.slice A' (n + 8) c') ∧ w'.ownsRow w.heap.size 5 1 (.slice A' (n + 8) c') (n + 8) ((Zbo bs).map byteV) ∧ Below w.heap.size w w' := by
 have hz : sizeN n = ((n + 8 : Nat) : Int) := by unfold sizeN; rw [if_pos (by omega)]; rfl
 have hne : ((((n + 8 : Nat) : Int)) == 0) = false := by simp; omega
 obtain ⟨i0, hi, hz0, hz1, hz2⟩ := info_parts infoU8
 have HI := hid hi
 have HZ := hid (And.intro hz0 (And.intro hz1 hz2))
 have HS := hid hs
 clear hs hi hz0 hz1 hz2
 generalize hm : ((n + 8 : Nat) : Int) = m at *
 go_enter Tryz.func44, Tryz.ntmps44
 go_wp2_with (fail)
 refine (Jn _ _ (by omega) (by omega)).mono ?_
 rintro e w1 ⟨rfl, rfl⟩
 go_wp2_with (fail)
 obtain ⟨b0, b1, b2, b3, hh⟩ := four (Y1 n)
 have hc := Zbm n w (by omega)
 rw [hh, Zbn] at hc
 refine hc.mono ?_
 rintro e w1 ⟨rfl, hb1⟩
 have HH := hid hh
 have HB1 := hid hb1
 have hlt : ∀ b : UInt8, b.toNat < 256 := fun b => b.toNat_lt
 clear hb1 hc hh
 go_wp2_with (fail)
 have hW1 := Whole.made w1 131 #[Value.int IntKind.u8 ↑b0.toNat, Value.int IntKind.u8 ↑b1.toNat, Value.int IntKind.u8 ↑b2.toNat, Value.int IntKind.u8 ↑b3.toNat]
 have hBW := HB1.out.alloc HB1.out.size (Obj.cells #[Value.int IntKind.u8 ↑b0.toNat, Value.int IntKind.u8 ↑b1.toNat, Value.int IntKind.u8 ↑b2.toNat, Value.int IntKind.u8 ↑b3.toNat] 131)
 generalize w1.alloc (Obj.cells #[Value.int IntKind.u8 ↑b0.toNat, Value.int IntKind.u8 ↑b1.toNat, Value.int IntKind.u8 ↑b2.toNat, Value.int IntKind.u8 ↑b3.toNat] 131) = W at *
 have hg1 : w.heap.size ≤ w1.heap.size := HB1.out.size
 generalize w1.heap.size = g1 at *
 obtain ⟨w2, hrun, hown, hgr⟩ := run_make_own (P := Tryz.prog) W W.heap.size 31 5 i0 _ 1 Tryz.underlying31 HI.out HZ.out.1 HZ.out.2.1 .i64 .i64 (n + 8) (by rw [HZ.out.2.2]; omega) (by unfold maxLen; omega) (Nat.le_refl _)
 rw [hm] at hrun
 rw [hrun]
 have hb2 : Below W.heap.size W w2 := (Below.refl _ W).grown hgr (Nat.le_refl _) (fun k hk => by cases hk)
 have HOWN := hid hown
 have HB2 := hid hb2
 have hW2 := Whole.below hW1 hb2 hW1.lt
 have HW2 := hid hW2
 have HBW := hid hBW
 clear hrun hown hgr hb2 hW2 hBW hW1 HB1 w1
 go_wp2_with (first
  | (at_builtin
     refine Z6 rfl (.tmp 17) (.tmp 18) _ rfl Tryz.underlying31 HI.out HZ.out.1 HZ.out.2.1 HZ.out.2.2 rfl (v := .slice (some ⟨W.heap.size, 0, none⟩) 0 (n + 8)) rfl HOWN.out (A := some ⟨g1, 0, none⟩) (m := 4) (c := 4) rfl (row4 HW2.out) (fun h => by cases h) (Yg _) 4 rfl ([b0, b1, b2, b3].map byteV) rfl (by unfold maxLen; omega) (by omega) HB2.out.size ?_
     intro A3 c3 w3 hown3 hbare3 hg3 hat3
     have hb3 : Below W.heap.size W w3 := HB2.out.grown hg3 HB2.out.size (fun k hk => by injection hk with hk; exact Nat.le_of_eq hk)
     have HOWN3 := hid hown3
     have HB3 := hid hb3
     have HX3 := hid (Sl.grow ((HBW.out.trans (hb3.mono HBW.out.size))) HS.out)
     clear hown3 hbare3 hg3 hat3 hb3)
  | (at_builtin
     refine Z6 rfl (.tmp 20) (.tmp 21) _ rfl Tryz.underlying31 HI.out HZ.out.1 HZ.out.2.1 HZ.out.2.2 rfl (v := .slice A3 4 c3) rfl HOWN3.out (A := A) (m := n) (c := c) rfl HX3.out.bytes HX3.out.bare (Yg _) (n + 4) (by omega) (([b0, b1, b2, b3] ++ bs).map byteV) (List.map_append).symm (by unfold maxLen; omega) (by omega) HB3.out.size ?_
     intro A4 c4 w4 hown4 hbare4 hg4 hat4
     have hb4 : Below W.heap.size W w4 := HB3.out.grown hg4 HB3.out.size (fun k hk => (HOWN3.out.lt k hk).1)
     have HOWN4 := hid hown4
     have HB4 := hid hb4
     clear hown4 hbare4 hg4 hat4 hb4))
 obtain ⟨d0, d1, d2, d3, hd⟩ := four (Zan ([b0, b1, b2, b3] ++ bs))
 have hc := Zd0 A4 (n + 4) c4 ([b0, b1, b2, b3] ++ bs) w4 (Sl.owned HOWN4.out) (by unfold maxLen; omega)
 rw [hd, Zbn] at hc
 refine hc.mono ?_
 rintro e w5 ⟨rfl, hb5⟩
 have HD := hid hd
 have HB5 := hid hb5
 have hW6 := Whole.made w5 131 #[Value.int IntKind.u8 ↑d0.toNat, Value.int IntKind.u8 ↑d1.toNat, Value.int IntKind.u8 ↑d2.toNat, Value.int IntKind.u8 ↑d3.toNat]
 have HW6 := hid hW6
 have hb6 := hb5.alloc hb5.size (Obj.cells #[Value.int IntKind.u8 ↑d0.toNat, Value.int IntKind.u8 ↑d1.toNat, Value.int IntKind.u8 ↑d2.toNat, Value.int IntKind.u8 ↑d3.toNat] 131)
 have HOWN6 := hid (Zd HOWN4.out hb6)
 have HB6 := hid (HB4.out.trans (hb6.mono HB4.out.size))
 clear hb5 hc hd hW6 hb6 HB4 HB3 HB2 HOWN4 HOWN3 HOWN HX3 HW2 HB5
 go_wp2_with (first
  | (at_builtin
     refine Z6 rfl (.tmp 25) (.tmp 26) _ rfl Tryz.underlying31 HI.out HZ.out.1 HZ.out.2.1 HZ.out.2.2 rfl (v := .slice A4 (n + 4) c4) rfl HOWN6.out (A := some ⟨w5.heap.size, 0, none⟩) (m := 4) (c := 4) rfl (row4 HW6.out) (fun h => by cases h) (Yg _) (n + 8) (by omega) ((([b0, b1, b2, b3] ++ bs) ++ [d0, d1, d2, d3]).map byteV) (List.map_append).symm (by unfold maxLen; omega) (by omega) HB6.out.size ?_
     intro A7 c7 w7 hown7 hbare7 hg7 hat7
     have hb7 : Below W.heap.size W w7 := HB6.out.grown hg7 HB6.out.size (fun k hk => (HOWN6.out.lt k hk).1)
     have HOWN7 := hid hown7
     have HB7 := hid hb7
     clear hown7 hbare7 hg7 hat7 hb7))
 go_ret
 refine ⟨A7, c7, rfl, ?_, HBW.out.trans (HB7.out.mono HBW.out.size)⟩
 have hf : Zbo bs = ([b0, b1, b2, b3] ++ bs) ++ [d0, d1, d2, d3] := by
  unfold Zbo
  rw [HS.out.len, HH.out, HD.out]
 rw [hf]
 exact Zj HOWN7.out HBW.out.size
theorem Zde (A : Option Addr) (n c : Nat) (bs : List UInt8) (w : World) (hs : Sl w A n c bs) (hn : n ≤ maxLen) :
 Calls Tryz.prog 44 #[.slice A n c] w fun e w' => ∃ A' m c', e = .returned (.slice A' m c') ∧ w'.ownsRow w.heap.size 5 1 (.slice A' m c') m ((putB bs).map byteV) ∧ Below w.heap.size w w' := by
 have hl := hs.len
 by_cases h : 1 ≤ n ∧ n ≤ 8192
 ·refine (Zps A n c bs w hs h.1 h.2).mono ?_
  rintro e w' ⟨A', c', rfl, hs', hb⟩
  refine ⟨A', n + 8, c', rfl, ?_, hb⟩
  unfold putB
  rw [hl, if_pos h]
  exact hs'
 ·refine (Znj A n c w hn h).mono ?_
  rintro e w' ⟨rfl, hb⟩
  refine ⟨none, 0, 0, rfl, ?_, hb⟩
  unfold putB
  rw [hl, if_neg h]
  exact World.ownsRow_nil _ _ _ _
section
variable {B d K : Nat} {w0 w w' : World} {out : Nat → Prop} {m m' : Dk}
theorem DkIn.beside (h : DkIn B w0 w d out m) (cs : Array Value) (t : TypeId) : DkIn B w0 (w.alloc (.cells cs t)) d (fun k => out k ∨ k = w.heap.size) m :=
 (h.more (Zb w (.cells cs t))).less fun k hk => hk.imp id fun e => by rw [World.size_alloc]; omega
theorem DkIn.news (h : DkIn B w0 w d out m) (hg : Grows w w') : DkIn B w0 w' d (fun k => out k ∨ w.heap.size ≤ k ∧ k < w'.heap.size) m := h.more hg
theorem Stays.whole {t : TypeId} {cs : Array Value} {g : Nat} (hs : Stays B out w w') (h : Whole w g t cs) (ho : out g) : Whole w' g t cs := h.same (hs.same g h.lt fun e => e.2 ho)
theorem Stays.less {out' : Nat → Prop} (hs : Stays B out' w w') (ho : ∀ k, out k → out' k) : Stays B out w w' := hs.wider fun k _ hk => ⟨hk.1, fun e => hk.2 (ho k e)⟩
end
def Zb6 (W : World) (bs : List UInt8) : Fact Grows := ⟨Option Addr × Nat, (none, 0), fun p => .slice p.1 bs.length p.2, fun p w => w.ownsRow W.heap.size 5 1 (.slice p.1 bs.length p.2) bs.length (bs.map byteV), fun _ _ _ h g => Zd h g⟩
section
variable {P : Program} {ops : Array Oper} {W : World} {Q : Act → World → Prop} {o : Oper} {rest : List Oper} {fs : List (Fact Grows)} {ks : Known} {a : Act}
theorem f_own (bs : List UInt8) (f : FuncId) (args : Array Value) (hw : Region.wanted o (yielded ops a.tmps) = true) (h1 : ∀ w, Grows W w → (execOp a.eval o).run P w = .ok (.enter f args) w)
 (hc : ∀ w, Grows W w → ks.for (o.looksAt ops) w → Calls P f args w fun e w' => ∃ A m c, e = .returned (.slice A m c) ∧ w'.ownsRow w.heap.size 5 1 (.slice A m c) m (bs.map byteV) ∧ Below w.heap.size w w')
 (h2 : ∀ A c, wpF P ops Grows W Q rest fs ((o.dst, fun w => w.ownsRow W.heap.size 5 1 (.slice A bs.length c) bs.length (bs.map byteV)) :: ks) (a.put o.dst (.slice A bs.length c))) :
 wpF P ops Grows W Q (o :: rest) (Zb6 W bs :: fs) ks a := by
 unfold wpF fStep
 rw [if_pos hw]
 refine ⟨fun w hW hk => ?_, fun x => h2 x.1 x.2⟩
 unfold gives
 rw [h1 w hW]
 refine (hc w hW hk).mono fun e w' ⟨A, m, c, he, hs, hb⟩ => ?_
 obtain rfl : bs.length = m := by have := hs.1; simpa using this
 exact ⟨hb, (A, c), he, Zj hs hW.size⟩
end
def Jp (bs : List UInt8) (er : Int) : Fact Grows := ⟨Option Addr × Nat, (none, 0), fun p => .tuple #[.slice p.1 bs.length p.2, .int .i64 er], fun p w => Sl w p.1 bs.length p.2 bs, fun _ _ _ h g => Sl.grow g h⟩
section
variable {P : Program} {ops : Array Oper} {W : World} {Q : Act → World → Prop} {o : Oper} {rest : List Oper} {fs : List (Fact Grows)} {ks : Known} {a : Act}
theorem f_got (bs : List UInt8) (er : Int) (f : FuncId) (args : Array Value) (hw : Region.wanted o (yielded ops a.tmps) = true) (h1 : ∀ w, Grows W w → (execOp a.eval o).run P w = .ok (.enter f args) w)
 (hc : ∀ w, Grows W w → ks.for (o.looksAt ops) w → Calls P f args w fun e w' => ∃ A c, e = .returned (.tuple #[.slice A bs.length c, .int .i64 er]) ∧ Sl w' A bs.length c bs ∧ Grows w w')
 (h2 : ∀ A c, wpF P ops Grows W Q rest fs ((o.dst, fun w => Sl w A bs.length c bs) :: ks) (a.put o.dst (.tuple #[.slice A bs.length c, .int .i64 er]))) :
 wpF P ops Grows W Q (o :: rest) (Jp bs er :: fs) ks a := by
 unfold wpF fStep
 rw [if_pos hw]
 refine ⟨fun w hW hk => ?_, fun x => h2 x.1 x.2⟩
 unfold gives
 rw [h1 w hW]
 exact (hc w hW hk).mono fun e w' ⟨A, c, he, hs, hb⟩ => ⟨hb, (A, c), he, hs⟩
theorem Zhj (bs : List UInt8) (er : Int) (A : Option Addr) (c : Nat) (hw : Region.wanted o (yielded ops a.tmps) = true) (h1 : ∀ w, Grows W w → ks.for (o.looksAt ops) w → (execOp a.eval o).run P w = .ok (.value (.tuple #[.slice A bs.length c, .int .i64 er])) w ∧ Sl w A bs.length c bs)
 (h2 : ∀ A c, wpF P ops Grows W Q rest fs ((o.dst, fun w => Sl w A bs.length c bs) :: ks) (a.put o.dst (.tuple #[.slice A bs.length c, .int .i64 er]))) :
 wpF P ops Grows W Q (o :: rest) (Jp bs er :: fs) ks a := by
 unfold wpF fStep
 rw [if_pos hw]
 refine ⟨fun w hW hk => ?_, fun x => h2 x.1 x.2⟩
 unfold gives
 rw [(h1 w hW hk).1]
 exact ⟨Grows.refl w, (A, c), rfl, (h1 w hW hk).2⟩
theorem f_slv (bs : List UInt8) (A : Option Addr) (c : Nat) (hw : Region.wanted o (yielded ops a.tmps) = true) (h1 : ∀ w, Grows W w → ks.for (o.looksAt ops) w → (execOp a.eval o).run P w = .ok (.value (.slice A bs.length c)) w ∧ Sl w A bs.length c bs)
 (h2 : ∀ A c, wpF P ops Grows W Q rest fs ((o.dst, fun w => Sl w A bs.length c bs) :: ks) (a.put o.dst (.slice A bs.length c))) :
 wpF P ops Grows W Q (o :: rest) (Yv bs :: fs) ks a := by
 unfold wpF fStep
 rw [if_pos hw]
 refine ⟨fun w hW hk => ?_, fun x => h2 x.1 x.2⟩
 unfold gives
 rw [(h1 w hW hk).1]
 exact ⟨Grows.refl w, (A, c), rfl, (h1 w hW hk).2⟩
end
theorem Zf4 {w : World} {b : Nat} {A : Option Addr} {n c : Nat} {bs : List UInt8} (h : w.ownsRow b 5 1 (.slice A n c) n (bs.map byteV)) : ∀ ad, A = some ad → b ≤ ad.block ∧ ad.block < w.heap.size := fun ad e => by
 subst e
 exact h.lt ad.block rfl
set_option maxRecDepth 100000 in
theorem Znh (w : World) {A : Option Addr} {n c : Nat} {bs : List UInt8} {A2 : Option Addr} {n2 c2 : Nat} {bs2 : List UInt8} (h1 : Sl w A n c bs) (h2 : Sl w A2 n2 c2 bs2) :
 Calls Tryz.prog 99 #[.slice A n c, .slice A2 n2 c2] w fun e w' => e = .returned (.bool (decide (bs = bs2))) ∧ w = w' := by
 have r1 := Zu h1
 have r2 := Zu h2
 clear h1 h2
 go_enter Tryz.func99, Tryz.ntmps99
 go_wp2_with (fail)
 go_ret
 exact ⟨by rw [show (bs == bs2) = decide (bs = bs2) from Bool.eq_iff_iff.2 (by simp)]; rfl, rfl⟩
def makeP (m : Dk) (n : Int) : Dk × Int :=
 if (m.create (nmS n)).2 = 0 then
  (if ((m.create (nmS n)).1.append (nmS n) (putB (Zw n))).2 = 0 then (((m.create (nmS n)).1.append (nmS n) (putB (Zw n))).1, 0)
   else ((((m.create (nmS n)).1.append (nmS n) (putB (Zw n))).1.remove (nmS n)).1, ((m.create (nmS n)).1.append (nmS n) (putB (Zw n))).2))
 else m.create (nmS n)
theorem Je {b : List UInt8} : (putB b).length ≤ 8200 := by
 unfold putB
 split
 ·rw [Za5]; omega
 ·simp
theorem Zjs {n : Int} (hn : 0 ≤ n ∧ n ≤ 99999999) : (⟨(nmS n).toArray⟩ : ByteArray).toList.isEmpty = false := by
 rw [ByteArray.toList_eq]
 unfold nmS ofP
 rw [if_neg (by omega), if_pos rfl]
 rfl
section
variable {B d K : Nat} {w0 w : World} {out : Nat → Prop} {m : Dk}
set_option maxRecDepth 100000 in
set_option maxHeartbeats 4000000 in
theorem Zb5 (w : World) (n : Int) (hn : 0 ≤ n ∧ n ≤ 99999999) (h : DkIn B w0 w d out m) (ok : DkOk K m) (hK : K ≤ 100000000) :
 Calls Tryz.prog 15 #[.pointer (some ⟨d, 0, none⟩), .int .i64 n] w fun e w' => e = .returned (.int .i64 (makeP m n).2) ∧ DkIn B w0 w' d out (makeP m n).1 ∧ Stays B out w w' := by
 have HO := hid (Zab w d n)
 have HFB := hid (fun w' => Zc3 w' d n (by omega))
 have H := hid h
 have hsm := Zjs hn
 have HOK := hid (And.intro ok hK)
 have HNS := hid (Zac n)
 have HFL := hid (show (Zw n).length = 5 from Yo n)
 unfold makeP
 unfold segV at HO HFB
 obtain ⟨s, hs⟩ : ∃ s : ByteArray, (⟨(nmS n).toArray⟩ : ByteArray) = s := ⟨_, rfl⟩
 rw [hs] at HO HFB hsm
 obtain ⟨v1, hv1⟩ : ∃ v, (m.create (nmS n)).2 = v := ⟨_, rfl⟩
 obtain ⟨m1, hm1⟩ : ∃ v, (m.create (nmS n)).1 = v := ⟨_, rfl⟩
 have hok1 := ok.create (nmS n)
 have HCR := hid (fun w' (hg : Grows w w') => Zmb (nmS n) ((h.grow hg).beside #[.pointer (some ⟨d, 0, none⟩), .int .i64 n, .string s] 77) ok (by omega) (by have := Zac n; omega) hv1 hm1)
 rw [hs] at HCR
 rw [hv1, hm1]
 rw [hm1] at hok1
 obtain ⟨v2, hv2⟩ : ∃ v, (m1.append (nmS n) (putB (Zw n))).2 = v := ⟨_, rfl⟩
 obtain ⟨m2, hm2⟩ : ∃ v, (m1.append (nmS n) (putB (Zw n))).1 = v := ⟨_, rfl⟩
 have hok2 := hok1.append (nmS n) (putB (Zw n))
 rw [hv2, hm2]
 rw [hm2] at hok2
 have hpe : m.create (nmS n) = (m1, v1) := Prod.ext hm1 hv1
 rw [hpe]
 have HOK2 := hid (And.intro hok1 (hok2.mono (show K + 1 + (putB (Zw n)).length ≤ K + 9000 by have := Je (b := Zw n); omega)))
 have HV := hid (And.intro hv2 (And.intro hm2 hs))
 clear h ok hK hs hv1 hm1 hok1 hv2 hm2 hok2 hpe
 by_cases hz : v1 = 0
 rotate_left 1
 ·have hzb : (v1 != 0) = true := by rw [bne_iff_ne]; exact hz
  rw [if_neg hz]
  clear hz
  go_enter Tryz.func15, Tryz.ntmps15
  go_wp2_with (fail)
  refine HO.out.mono ?_
  rintro e w1 ⟨rfl, hg1⟩
  have hwm := Whole.made w1 77 #[.pointer (some ⟨d, 0, none⟩), .int .i64 n, .string s]
  have c0 := hwm.cell 0
  have c2 := hwm.cell 2
  simp only [Gt] at c0 c2
  have HG1 := hid hg1
  have HWM := hid hwm
  clear hg1 hwm
  go_wp2_with (fail)
  refine (HCR.out w1 HG1.out).mono ?_
  rintro e w3 ⟨rfl, hd3, hs3⟩
  have hw3 := hs3.whole HWM.out (.inr rfl)
  have HS3 := hid ((Stays.grows HG1.out).trans ((Stays.grows (Zb w1 (.cells #[.pointer (some ⟨d, 0, none⟩), .int .i64 n, .string s] 77))).trans (hs3.less fun k hk => .inl hk)))
  have HD3 := hid hd3
  have HW3 := hid hw3
  have k0 := hw3.cell 0
  have k1 := hw3.cell 1
  have k2 := hw3.cell 2
  simp only [Gt] at k0 k1 k2
  clear c0 c2 hd3 hs3 hw3
  go_wp2_with (fail)
  go_ret
  exact ⟨rfl, HD3.out.less fun k hk => .inl hk, HS3.out⟩
 subst hz
 rw [if_pos rfl]
 by_cases hz2 : v2 = 0
 ·subst hz2
  rw [if_pos rfl]
  go_enter Tryz.func15, Tryz.ntmps15
  go_wp2_with (fail)
  refine HO.out.mono ?_
  rintro e w1 ⟨rfl, hg1⟩
  have hwm := Whole.made w1 77 #[.pointer (some ⟨d, 0, none⟩), .int .i64 n, .string s]
  have c0 := hwm.cell 0
  have c2 := hwm.cell 2
  simp only [Gt] at c0 c2
  have HG1 := hid hg1
  have HWM := hid hwm
  clear hg1 hwm
  go_wp2_with (fail)
  refine (HCR.out w1 HG1.out).mono ?_
  rintro e w3 ⟨rfl, hd3, hs3⟩
  have hw3 := hs3.whole HWM.out (.inr rfl)
  have HS3 := hid ((Stays.grows HG1.out).trans ((Stays.grows (Zb w1 (.cells #[.pointer (some ⟨d, 0, none⟩), .int .i64 n, .string s] 77))).trans (hs3.less fun k hk => .inl hk)))
  have HD3 := hid hd3
  have HW3 := hid hw3
  have k0 := hw3.cell 0
  have k1 := hw3.cell 1
  have k2 := hw3.cell 2
  simp only [Gt] at k0 k1 k2
  clear c0 c2 hd3 hs3 hw3
  have HCC := hid (show ∀ w', Grows w3 w' → w'.cell? { block := w1.heap.size, off := 0 } = some (.pointer (some ⟨d, 0, none⟩)) ∧ w'.cell? { block := w1.heap.size, off := 1 } = some (.int .i64 n) ∧ w'.cell? { block := w1.heap.size, off := 2 } = some (.string s) from fun w' hC => by
   have hx := hC.whole HW3.out
   exact ⟨hx.cell 0, hx.cell 1, hx.cell 2⟩)
  go_wp2_with (fail)
  refine Zh (E := Grows) 7 [Za (.pointer (some ⟨w1.heap.size, 0, none⟩)), Za (.pointer (some ⟨d, 0, none⟩)), Za (.pointer (some ⟨w1.heap.size, 2, none⟩)), Za (.string s), Za (.agg #[.pointer (some ⟨d, 0, none⟩), .int .i64 n, .string s]), Yv (Zw n), Zb6 w3 (putB (Zw n))] mixed (by kernel_rfl) (fun _ _ _ => Grows.trans) (Ze _) ?_
  simp only [List.take_succ_cons, List.take_zero, List.drop_succ_cons, List.drop_zero]
  refine f_val _ (by rfl) ?_ ?_
  ·intro w' hC; clear hC; go_simp
  simp only [Pu]
  refine f_val _ (by rfl) ?_ ?_
  ·intro w' hC; obtain ⟨z1, z2, z3⟩ := HCC.out w' hC; clear hC; go_simp
  simp only [Pu]
  refine f_val _ (by rfl) ?_ ?_
  ·intro w' hC; clear hC; go_simp
  simp only [Pu]
  iterate 2
   refine f_val _ (by rfl) ?_ ?_
   ·intro w' hC; obtain ⟨z1, z2, z3⟩ := HCC.out w' hC; clear hC; go_simp
   simp only [Pu]
  refine f_new (Zw n) 45 #[.agg #[.pointer (some ⟨d, 0, none⟩), .int .i64 n, .string s]] (by rfl) (by intro w' hC; clear hC; go_simp) ?_ ?_
  ·intro w' hC hks; exact (HFB.out w').mono fun e w'' ⟨g2, he, hlt, hsl, hgr⟩ => ⟨some ⟨g2, 0, none⟩, 5, 5, he, hsl, hgr⟩
  intro FA fc
  simp only [Pu]
  refine f_own (putB (Zw n)) 44 #[.slice FA (Zw n).length fc] (by rfl) (by intro w' hC; clear hC; go_simp) ?_ ?_
  ·intro w' hC hks; exact Zde _ _ _ _ w' (Known.get hks 0 rfl rfl) (by rw [HFL.out]; decide)
  intro PA pc
  simp only [Pu]
  refine Zv ?_
  intro w6 hC hks
  have HCw6 := hid hC
  have HK := hid (Known.at hks 0 rfl)
  clear hC hks
  have hd6 := HD3.out.news HCw6.out
  have hoff := Zf4 HK.out
  have HAP := hid (Zcb (nmS n) hd6 HOK2.out.1 (by have := HOK.out.2; omega) (by have := HNS.out; omega) (Sl.owned HK.out) (fun ad e _ => .inr (.inr (hoff ad e))) (by have := Je (b := Zw n); omega) HV.out.1 HV.out.2.1)
  rw [HV.out.2.2] at HAP
  have hw6 := HCw6.out.whole HW3.out
  have HW6 := hid hw6
  clear hd6 hoff hw6 k0 k1 k2
  go_wp2_with (fail)
  refine HAP.out.mono ?_
  rintro e w7 ⟨rfl, hd7, hs7⟩
  have hw7 := hs7.whole HW6.out (.inl (.inr rfl))
  have HS7 := hid (HS3.out.trans ((Stays.grows HCw6.out).trans (hs7.less fun k hk => .inl (.inl hk))))
  have HD7 := hid (hd7.less (out' := fun k => out k ∨ k = w1.heap.size) fun k hk => .inl hk)
  have k0 := hw7.cell 0
  have k2 := hw7.cell 2
  simp only [Gt] at k0 k2
  clear hd7 hs7 hw7
  go_wp2_with (fail)
  go_ret
  exact ⟨rfl, HD7.out.less fun k hk => .inl hk, HS7.out⟩
 have hzb : (v2 != 0) = true := by rw [bne_iff_ne]; exact hz2
 rw [if_neg hz2]
 clear hz2
 go_enter Tryz.func15, Tryz.ntmps15
 go_wp2_with (fail)
 refine HO.out.mono ?_
 rintro e w1 ⟨rfl, hg1⟩
 have hwm := Whole.made w1 77 #[.pointer (some ⟨d, 0, none⟩), .int .i64 n, .string s]
 have c0 := hwm.cell 0
 have c2 := hwm.cell 2
 simp only [Gt] at c0 c2
 have HG1 := hid hg1
 have HWM := hid hwm
 clear hg1 hwm
 go_wp2_with (fail)
 refine (HCR.out w1 HG1.out).mono ?_
 rintro e w3 ⟨rfl, hd3, hs3⟩
 have hw3 := hs3.whole HWM.out (.inr rfl)
 have HS3 := hid ((Stays.grows HG1.out).trans ((Stays.grows (Zb w1 (.cells #[.pointer (some ⟨d, 0, none⟩), .int .i64 n, .string s] 77))).trans (hs3.less fun k hk => .inl hk)))
 have HD3 := hid hd3
 have HW3 := hid hw3
 have k0 := hw3.cell 0
 have k1 := hw3.cell 1
 have k2 := hw3.cell 2
 simp only [Gt] at k0 k1 k2
 clear c0 c2 hd3 hs3 hw3
 have HCC := hid (show ∀ w', Grows w3 w' → w'.cell? { block := w1.heap.size, off := 0 } = some (.pointer (some ⟨d, 0, none⟩)) ∧ w'.cell? { block := w1.heap.size, off := 1 } = some (.int .i64 n) ∧ w'.cell? { block := w1.heap.size, off := 2 } = some (.string s) from fun w' hC => by
  have hx := hC.whole HW3.out
  exact ⟨hx.cell 0, hx.cell 1, hx.cell 2⟩)
 go_wp2_with (fail)
 refine Zh (E := Grows) 7 [Za (.pointer (some ⟨w1.heap.size, 0, none⟩)), Za (.pointer (some ⟨d, 0, none⟩)), Za (.pointer (some ⟨w1.heap.size, 2, none⟩)), Za (.string s), Za (.agg #[.pointer (some ⟨d, 0, none⟩), .int .i64 n, .string s]), Yv (Zw n), Zb6 w3 (putB (Zw n))] mixed (by kernel_rfl) (fun _ _ _ => Grows.trans) (Ze _) ?_
 simp only [List.take_succ_cons, List.take_zero, List.drop_succ_cons, List.drop_zero]
 refine f_val _ (by rfl) ?_ ?_
 ·intro w' hC; clear hC; go_simp
 simp only [Pu]
 refine f_val _ (by rfl) ?_ ?_
 ·intro w' hC; obtain ⟨z1, z2, z3⟩ := HCC.out w' hC; clear hC; go_simp
 simp only [Pu]
 refine f_val _ (by rfl) ?_ ?_
 ·intro w' hC; clear hC; go_simp
 simp only [Pu]
 iterate 2
  refine f_val _ (by rfl) ?_ ?_
  ·intro w' hC; obtain ⟨z1, z2, z3⟩ := HCC.out w' hC; clear hC; go_simp
  simp only [Pu]
 refine f_new (Zw n) 45 #[.agg #[.pointer (some ⟨d, 0, none⟩), .int .i64 n, .string s]] (by rfl) (by intro w' hC; clear hC; go_simp) ?_ ?_
 ·intro w' hC hks; exact (HFB.out w').mono fun e w'' ⟨g2, he, hlt, hsl, hgr⟩ => ⟨some ⟨g2, 0, none⟩, 5, 5, he, hsl, hgr⟩
 intro FA fc
 simp only [Pu]
 refine f_own (putB (Zw n)) 44 #[.slice FA (Zw n).length fc] (by rfl) (by intro w' hC; clear hC; go_simp) ?_ ?_
 ·intro w' hC hks; exact Zde _ _ _ _ w' (Known.get hks 0 rfl rfl) (by rw [HFL.out]; decide)
 intro PA pc
 simp only [Pu]
 refine Zv ?_
 intro w6 hC hks
 have HCw6 := hid hC
 have HK := hid (Known.at hks 0 rfl)
 clear hC hks
 have hd6 := HD3.out.news HCw6.out
 have hoff := Zf4 HK.out
 have HAP := hid (Zcb (nmS n) hd6 HOK2.out.1 (by have := HOK.out.2; omega) (by have := HNS.out; omega) (Sl.owned HK.out) (fun ad e _ => .inr (.inr (hoff ad e))) (by have := Je (b := Zw n); omega) HV.out.1 HV.out.2.1)
 rw [HV.out.2.2] at HAP
 have hw6 := HCw6.out.whole HW3.out
 have HW6 := hid hw6
 clear hd6 hoff hw6 k0 k1 k2
 go_wp2_with (fail)
 refine HAP.out.mono ?_
 rintro e w7 ⟨rfl, hd7, hs7⟩
 have hw7 := hs7.whole HW6.out (.inl (.inr rfl))
 have HS7 := hid (HS3.out.trans ((Stays.grows HCw6.out).trans (hs7.less fun k hk => .inl (.inl hk))))
 have HD7 := hid (hd7.less (out' := fun k => out k ∨ k = w1.heap.size) fun k hk => .inl hk)
 have k0 := hw7.cell 0
 have k2 := hw7.cell 2
 simp only [Gt] at k0 k2
 clear hd7 hs7 hw7
 have HRM := hid (Zmc (nmS n) HD7.out HOK2.out.2 (by have := HOK.out.2; omega) (by have := HNS.out; omega) rfl rfl)
 rw [HV.out.2.2] at HRM
 go_wp2_with (fail)
 refine HRM.out.mono ?_
 rintro e w8 ⟨rfl, hd8, hs8⟩
 have HS8 := hid (HS7.out.trans (hs8.less fun k hk => .inl hk))
 have HD8 := hid (hd8.less (out' := out) fun k hk => .inl hk)
 clear hd8 hs8
 go_wp2_with (fail)
 go_ret
 exact ⟨rfl, HD8.out, HS8.out⟩
end
end Go.Proofs.YtlldcogkcjnejaaGreat
