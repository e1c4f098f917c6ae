/-
  Records, told plainly: which are right, what bytes they have, what is got of bytes. No program in sight.
-/
namespace Go.Proofs.Ytdjlhdeejpndcaa

/-- A place: which segment, where, how many bytes. -/
abbrev Lc := Int × Int × Int
structure Rc where
  kind : Int
  key : List UInt8
  id : Int
  no : Int
  size : Int
  locs : List Lc
  b : List UInt8
  deriving DecidableEq
def Rc.none : Rc := ⟨0, [], 0, 0, 0, [], []⟩

def LocOk (l : Lc) : Prop := (0 ≤ l.1 ∧ l.1 ≤ 99999999) ∧ (0 ≤ l.2.1 ∧ l.2.1 ≤ 1073741824) ∧ (1 ≤ l.2.2 ∧ l.2.2 ≤ 4096)
instance (l : Lc) : Decidable (LocOk l) := by unfold LocOk; infer_instance
def sumN : List Lc → Int
  | [] => 0
  | l :: ls => l.2.2 + sumN ls
def KeyOk (k : List UInt8) : Prop := 1 ≤ k.length ∧ k.length ≤ 64
instance (k : List UInt8) : Decidable (KeyOk k) := by unfold KeyOk; infer_instance
def IdOk (i : Int) : Prop := 0 ≤ i ∧ i ≤ 1099511627776
instance (i : Int) : Decidable (IdOk i) := by unfold IdOk; infer_instance
def LocsOk (ls : List Lc) (size : Int) : Prop := ls.length ≤ 512 ∧ (∀ l ∈ ls, LocOk l) ∧ sumN ls = size
instance (ls : List Lc) (size : Int) : Decidable (LocsOk ls size) := by unfold LocsOk; infer_instance

def Bare (r : Rc) : Prop := r.id = 0 ∧ r.no = 0 ∧ r.size = 0 ∧ r.locs.length = 0
def PieceOk (r : Rc) : Prop := r.key.length < 1 ∧ r.size = 0 ∧ r.locs.length = 0 ∧ IdOk r.id ∧ (0 ≤ r.no ∧ r.no ≤ 511) ∧ 1 ≤ r.b.length ∧ r.b.length ≤ 4096
def RootOk (r : Rc) : Prop := r.no = 0 ∧ r.b.length = 0 ∧ KeyOk r.key ∧ IdOk r.id ∧ (1 ≤ r.size ∧ r.size ≤ 65536) ∧ LocsOk r.locs r.size
def InlineOk (r : Rc) : Prop := Bare r ∧ KeyOk r.key ∧ r.b.length ≤ 4096
def TombOk (r : Rc) : Prop := Bare r ∧ KeyOk r.key ∧ r.b.length = 0
def RightR (r : Rc) : Prop := (r.kind = 1 ∧ PieceOk r) ∨ (r.kind = 2 ∧ RootOk r) ∨ (r.kind = 3 ∧ InlineOk r) ∨ (r.kind = 4 ∧ TombOk r)
instance (r : Rc) : Decidable (RightR r) := by unfold RightR PieceOk RootOk InlineOk TombOk Bare; infer_instance

/-- The lowest byte of a number. -/
def byteI (n : Int) : UInt8 := UInt8.ofNat (n % 256).toNat
theorem byteI_nat (n : Int) : ((byteI n).toNat : Int) = n % 256 := by
  unfold byteI
  rw [UInt8.toNat_ofNat']
  omega
/-- A number's lowest bytes, the highest of them first. -/
def numB (n : Int) : Nat → List UInt8
  | 0 => []
  | k + 1 => byteI (n / 256 ^ k) :: numB n k
theorem numB_length (n : Int) : ∀ k, (numB n k).length = k
  | 0 => rfl
  | k + 1 => by rw [numB, List.length_cons, numB_length n k]
/-- The number of bytes. -/
def valB (bs : List UInt8) : Int := bs.foldl (fun (n : Int) c => 256 * n + (c.toNat : Int)) 0
theorem valB_snoc (bs : List UInt8) (c : UInt8) : valB (bs ++ [c]) = 256 * valB bs + (c.toNat : Int) := by
  unfold valB
  rw [List.foldl_append]
  rfl
theorem valB_cons (c : UInt8) (bs : List UInt8) : valB (c :: bs) = (c.toNat : Int) * 256 ^ bs.length + valB bs := by
  have key : ∀ (bs : List UInt8) (n : Int), bs.foldl (fun (n : Int) c => 256 * n + (c.toNat : Int)) n = n * 256 ^ bs.length + valB bs := by
    intro bs
    induction bs with
    | nil => intro n; simp [valB]
    | cons d bs ih =>
      intro n
      unfold valB
      rw [List.foldl_cons, List.foldl_cons, ih, ih (256 * 0 + _), List.length_cons, Int.pow_succ]
      generalize (256 : Int) ^ bs.length = p
      rw [Int.add_mul, Int.mul_zero, Int.zero_add, Int.add_assoc]
      congr 1
      rw [Int.mul_comm 256 n, Int.mul_assoc, Int.mul_comm 256 p]
  unfold valB
  rw [List.foldl_cons, key, Int.mul_zero, Int.zero_add]
  rfl
theorem valB_lt (bs : List UInt8) : 0 ≤ valB bs ∧ valB bs < 256 ^ bs.length := by
  induction bs with
  | nil => exact ⟨by decide, by decide⟩
  | cons c bs ih =>
    rw [valB_cons, List.length_cons, Int.pow_succ]
    have hc : (c.toNat : Int) ≤ 255 := by have := c.toNat_lt; omega
    obtain ⟨h1, h2⟩ := ih
    have hp : (0 : Int) < 256 ^ bs.length := Int.pow_pos (by decide)
    generalize (256 : Int) ^ bs.length = p at *
    have h3 : (c.toNat : Int) * p ≤ 255 * p := Int.mul_le_mul_of_nonneg_right hc (by omega)
    have h4 : 0 ≤ (c.toNat : Int) * p := Int.mul_nonneg (by omega) (by omega)
    omega
/-- What is told of a number's bytes. -/
theorem valB_numB (n : Int) (h0 : 0 ≤ n) : ∀ k, valB (numB n k) = n % 256 ^ k
  | 0 => by simp [numB, valB, Int.emod_one]
  | k + 1 => by
    rw [numB, valB_cons, numB_length, valB_numB n h0 k, byteI_nat, Int.pow_succ]
    have hp : (0 : Int) < 256 ^ k := Int.pow_pos (by decide)
    generalize (256 : Int) ^ k = p at *
    have h1 := Int.emod_add_mul_ediv n p
    have h2 := Int.emod_add_mul_ediv (n / p) 256
    have h3 : n / p / 256 = n / (p * 256) := by rw [Int.ediv_ediv_of_nonneg (by omega)]
    have h4 := Int.emod_add_mul_ediv n (p * 256)
    rw [← h3] at h4
    generalize n / p / 256 = q at *
    generalize n / p = m at *
    generalize m % 256 = x at *
    have h5 : p * m = p * x + p * (256 * q) := by rw [← Int.mul_add, h2]
    have h6 : p * 256 * q = p * (256 * q) := by rw [Int.mul_assoc]
    rw [h6] at h4
    rw [Int.mul_comm x p]
    generalize p * (256 * q) = z at *
    generalize p * x = y at *
    generalize n % (p * 256) = u at *
    generalize n % p = v at *
    generalize p * m = t at *
    omega
theorem valB_of (n : Int) (k : Nat) (h0 : 0 ≤ n) (h : n < 256 ^ k) : valB (numB n k) = n := by
  rw [valB_numB n h0 k, Int.emod_eq_of_lt h0 h]
/-- .. and the other way. -/
theorem numB_valB : ∀ (bs : List UInt8) (q : Int), numB (q * 256 ^ bs.length + valB bs) bs.length = bs
  | [], _ => rfl
  | c :: bs, q => by
    rw [List.length_cons, numB, valB_cons, Int.pow_succ]
    have hb := valB_lt bs
    have hp : (0 : Int) < 256 ^ bs.length := Int.pow_pos (by decide)
    have hc := c.toNat_lt
    have e : q * (256 ^ bs.length * 256) + ((c.toNat : Int) * 256 ^ bs.length + valB bs) = (q * 256 + (c.toNat : Int)) * 256 ^ bs.length + valB bs := by
      generalize (256 : Int) ^ bs.length = p
      rw [Int.add_mul, Int.mul_assoc, Int.mul_comm 256 p]
      omega
    rw [e, numB_valB bs (q * 256 + (c.toNat : Int))]
    congr 1
    have h1 : ((q * 256 + (c.toNat : Int)) * 256 ^ bs.length + valB bs) / 256 ^ bs.length = q * 256 + (c.toNat : Int) := by
      rw [Int.add_comm, Int.add_mul_ediv_right _ _ (by omega), Int.ediv_eq_zero_of_lt hb.1 hb.2, Int.zero_add]
    rw [h1]
    unfold byteI
    apply UInt8.toNat_inj.1
    rw [UInt8.toNat_ofNat']
    omega
theorem numB_valB' (bs : List UInt8) : numB (valB bs) bs.length = bs := by
  have := numB_valB bs 0
  rwa [Int.zero_mul, Int.zero_add] at this

def locB (l : Lc) : List UInt8 := numB l.1 4 ++ (numB l.2.1 4 ++ numB l.2.2 2)
def locsB : List Lc → List UInt8
  | [] => []
  | l :: ls => locB l ++ locsB ls
theorem locB_length (l : Lc) : (locB l).length = 10 := by simp [locB, numB_length]
theorem locsB_length : ∀ ls, (locsB ls).length = 10 * ls.length
  | [] => rfl
  | l :: ls => by rw [locsB, List.length_append, locB_length, locsB_length ls, List.length_cons]; omega
theorem locsB_append : ∀ a b, locsB (a ++ b) = locsB a ++ locsB b
  | [], _ => rfl
  | l :: a, b => by rw [List.cons_append, locsB, locsB, locsB_append a b, List.append_assoc]
def keyP (k : List UInt8) : List UInt8 := byteI k.length :: k
def bodyR (r : Rc) : List UInt8 :=
  if r.kind = 1 then numB r.id 6 ++ (numB r.no 2 ++ r.b)
  else if r.kind = 2 then keyP r.key ++ (numB r.id 6 ++ (numB r.size 3 ++ (numB r.locs.length 2 ++ locsB r.locs)))
  else if r.kind = 3 then keyP r.key ++ r.b
  else r.key
/-- A record's bytes; nothing, if it is not right. -/
def putR (r : Rc) : List UInt8 := if RightR r then byteI r.kind :: bodyR r else []

/-- Bytes of which a record is got, part by part; and whether a part was not there whole. -/
abbrev Src := List UInt8 × Bool
def takeS (s : Src) (n : Int) : List UInt8 × Src := if s.2 = true ∨ (s.1.length : Int) < n then ([], (s.1, true)) else (s.1.take n.toNat, (s.1.drop n.toNat, false))
def numS (s : Src) (k : Int) : Int × Src := (valB (takeS s k).1, (takeS s k).2)
def keyS (s : Src) : List UInt8 × Src := takeS (numS s 1).2 (numS s 1).1
def restS (s : Src) : List UInt8 × Src := takeS s s.1.length
def locS (s : Src) : Lc × Src :=
  let x := numS s 4
  let y := numS x.2 4
  let z := numS y.2 2
  ((x.1, y.1, z.1), z.2)
def locsL : Nat → Src → List Lc → List Lc × Src
  | 0, s, acc => (acc, s)
  | k + 1, s, acc => if (locS s).2.2 = true then ([], (locS s).2) else locsL k (locS s).2 (acc ++ [(locS s).1])
def locsS (s : Src) : List Lc × Src := locsL (numS s 2).1.toNat (numS s 2).2 []
def pieceS (s : Src) : Rc × Src :=
  let x := numS s 6
  let y := numS x.2 2
  let z := restS y.2
  (⟨0, [], x.1, y.1, 0, [], z.1⟩, z.2)
def rootS (s : Src) : Rc × Src :=
  let k := keyS s
  let x := numS k.2 6
  let y := numS x.2 3
  let z := locsS y.2
  (⟨0, k.1, x.1, 0, y.1, z.1, []⟩, z.2)
def inlineS (s : Src) : Rc × Src :=
  let k := keyS s
  let z := restS k.2
  (⟨0, k.1, 0, 0, 0, [], z.1⟩, z.2)
def tombS (s : Src) : Rc × Src := (⟨0, (restS s).1, 0, 0, 0, [], []⟩, (restS s).2)
def partS (k : Int) (s : Src) : Rc × Src := if k = 1 then pieceS s else if k = 2 then rootS s else if k = 3 then inlineS s else tombS s
/-- The record of bytes, if there is one. -/
def getR : List UInt8 → Option Rc
  | [] => Option.none
  | c :: bs =>
    if 1 ≤ c.toNat ∧ c.toNat ≤ 4 then
      if ((partS c.toNat (bs, false)).2.2 = false ∧ (partS c.toNat (bs, false)).2.1 = []) ∧ RightR { (partS c.toNat (bs, false)).1 with kind := c.toNat } then some { (partS c.toNat (bs, false)).1 with kind := c.toNat } else Option.none
    else Option.none
end Go.Proofs.Ytdjlhdeejpndcaa
