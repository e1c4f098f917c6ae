/-
  Texts that the statements' proofs lean on, one behind the other.
-/
/-
  Records, told plainly: which are right, what bytes they have, what is got of bytes. No program in sight.
-/
namespace Go.Proofs.Ytdkpbphgaenlnaa

/-- A place: which segment, where, how many bytes. -/
abbrev Lc := Int × Int × Int
structure Rc where
  kind : Int
  key : List UInt8
  id : Int
  no : Int
  size : Int
  locs : List Lc
  b : List UInt8
  deriving DecidableEq
def Rc.none : Rc := ⟨0, [], 0, 0, 0, [], []⟩

def LocOk (l : Lc) : Prop := (0 ≤ l.1 ∧ l.1 ≤ 99999999) ∧ (0 ≤ l.2.1 ∧ l.2.1 ≤ 1073741824) ∧ (1 ≤ l.2.2 ∧ l.2.2 ≤ 4096)
instance (l : Lc) : Decidable (LocOk l) := by unfold LocOk; infer_instance
def sumN : List Lc → Int
  | [] => 0
  | l :: ls => l.2.2 + sumN ls
def KeyOk (k : List UInt8) : Prop := 1 ≤ k.length ∧ k.length ≤ 64
instance (k : List UInt8) : Decidable (KeyOk k) := by unfold KeyOk; infer_instance
def IdOk (i : Int) : Prop := 0 ≤ i ∧ i ≤ 1099511627776
instance (i : Int) : Decidable (IdOk i) := by unfold IdOk; infer_instance
def LocsOk (ls : List Lc) (size : Int) : Prop := ls.length ≤ 512 ∧ (∀ l ∈ ls, LocOk l) ∧ sumN ls = size
instance (ls : List Lc) (size : Int) : Decidable (LocsOk ls size) := by unfold LocsOk; infer_instance

def Bare (r : Rc) : Prop := r.id = 0 ∧ r.no = 0 ∧ r.size = 0 ∧ r.locs.length = 0
def PieceOk (r : Rc) : Prop := r.key.length < 1 ∧ r.size = 0 ∧ r.locs.length = 0 ∧ IdOk r.id ∧ (0 ≤ r.no ∧ r.no ≤ 511) ∧ 1 ≤ r.b.length ∧ r.b.length ≤ 4096
def RootOk (r : Rc) : Prop := r.no = 0 ∧ r.b.length = 0 ∧ KeyOk r.key ∧ IdOk r.id ∧ (1 ≤ r.size ∧ r.size ≤ 65536) ∧ LocsOk r.locs r.size
def InlineOk (r : Rc) : Prop := Bare r ∧ KeyOk r.key ∧ r.b.length ≤ 4096
def TombOk (r : Rc) : Prop := Bare r ∧ KeyOk r.key ∧ r.b.length = 0
def RightR (r : Rc) : Prop := (r.kind = 1 ∧ PieceOk r) ∨ (r.kind = 2 ∧ RootOk r) ∨ (r.kind = 3 ∧ InlineOk r) ∨ (r.kind = 4 ∧ TombOk r)
instance (r : Rc) : Decidable (RightR r) := by unfold RightR PieceOk RootOk InlineOk TombOk Bare; infer_instance

/-- The lowest byte of a number. -/
def byteI (n : Int) : UInt8 := UInt8.ofNat (n % 256).toNat
theorem byteI_nat (n : Int) : ((byteI n).toNat : Int) = n % 256 := by
  unfold byteI
  rw [UInt8.toNat_ofNat']
  omega
/-- A number's lowest bytes, the highest of them first. -/
def numB (n : Int) : Nat → List UInt8
  | 0 => []
  | k + 1 => byteI (n / 256 ^ k) :: numB n k
theorem numB_length (n : Int) : ∀ k, (numB n k).length = k
  | 0 => rfl
  | k + 1 => by rw [numB, List.length_cons, numB_length n k]
/-- The number of bytes. -/
def valB (bs : List UInt8) : Int := bs.foldl (fun (n : Int) c => 256 * n + (c.toNat : Int)) 0
theorem valB_snoc (bs : List UInt8) (c : UInt8) : valB (bs ++ [c]) = 256 * valB bs + (c.toNat : Int) := by
  unfold valB
  rw [List.foldl_append]
  rfl
theorem valB_cons (c : UInt8) (bs : List UInt8) : valB (c :: bs) = (c.toNat : Int) * 256 ^ bs.length + valB bs := by
  have key : ∀ (bs : List UInt8) (n : Int), bs.foldl (fun (n : Int) c => 256 * n + (c.toNat : Int)) n = n * 256 ^ bs.length + valB bs := by
    intro bs
    induction bs with
    | nil => intro n; simp [valB]
    | cons d bs ih =>
      intro n
      unfold valB
      rw [List.foldl_cons, List.foldl_cons, ih, ih (256 * 0 + _), List.length_cons, Int.pow_succ]
      generalize (256 : Int) ^ bs.length = p
      rw [Int.add_mul, Int.mul_zero, Int.zero_add, Int.add_assoc]
      congr 1
      rw [Int.mul_comm 256 n, Int.mul_assoc, Int.mul_comm 256 p]
  unfold valB
  rw [List.foldl_cons, key, Int.mul_zero, Int.zero_add]
  rfl
theorem valB_lt (bs : List UInt8) : 0 ≤ valB bs ∧ valB bs < 256 ^ bs.length := by
  induction bs with
  | nil => exact ⟨by decide, by decide⟩
  | cons c bs ih =>
    rw [valB_cons, List.length_cons, Int.pow_succ]
    have hc : (c.toNat : Int) ≤ 255 := by have := c.toNat_lt; omega
    obtain ⟨h1, h2⟩ := ih
    have hp : (0 : Int) < 256 ^ bs.length := Int.pow_pos (by decide)
    generalize (256 : Int) ^ bs.length = p at *
    have h3 : (c.toNat : Int) * p ≤ 255 * p := Int.mul_le_mul_of_nonneg_right hc (by omega)
    have h4 : 0 ≤ (c.toNat : Int) * p := Int.mul_nonneg (by omega) (by omega)
    omega
/-- What is told of a number's bytes. -/
theorem valB_numB (n : Int) (h0 : 0 ≤ n) : ∀ k, valB (numB n k) = n % 256 ^ k
  | 0 => by simp [numB, valB, Int.emod_one]
  | k + 1 => by
    rw [numB, valB_cons, numB_length, valB_numB n h0 k, byteI_nat, Int.pow_succ]
    have hp : (0 : Int) < 256 ^ k := Int.pow_pos (by decide)
    generalize (256 : Int) ^ k = p at *
    have h1 := Int.emod_add_mul_ediv n p
    have h2 := Int.emod_add_mul_ediv (n / p) 256
    have h3 : n / p / 256 = n / (p * 256) := by rw [Int.ediv_ediv_of_nonneg (by omega)]
    have h4 := Int.emod_add_mul_ediv n (p * 256)
    rw [← h3] at h4
    generalize n / p / 256 = q at *
    generalize n / p = m at *
    generalize m % 256 = x at *
    have h5 : p * m = p * x + p * (256 * q) := by rw [← Int.mul_add, h2]
    have h6 : p * 256 * q = p * (256 * q) := by rw [Int.mul_assoc]
    rw [h6] at h4
    rw [Int.mul_comm x p]
    generalize p * (256 * q) = z at *
    generalize p * x = y at *
    generalize n % (p * 256) = u at *
    generalize n % p = v at *
    generalize p * m = t at *
    omega
theorem valB_of (n : Int) (k : Nat) (h0 : 0 ≤ n) (h : n < 256 ^ k) : valB (numB n k) = n := by
  rw [valB_numB n h0 k, Int.emod_eq_of_lt h0 h]
/-- .. and the other way. -/
theorem numB_valB : ∀ (bs : List UInt8) (q : Int), numB (q * 256 ^ bs.length + valB bs) bs.length = bs
  | [], _ => rfl
  | c :: bs, q => by
    rw [List.length_cons, numB, valB_cons, Int.pow_succ]
    have hb := valB_lt bs
    have hp : (0 : Int) < 256 ^ bs.length := Int.pow_pos (by decide)
    have hc := c.toNat_lt
    have e : q * (256 ^ bs.length * 256) + ((c.toNat : Int) * 256 ^ bs.length + valB bs) = (q * 256 + (c.toNat : Int)) * 256 ^ bs.length + valB bs := by
      generalize (256 : Int) ^ bs.length = p
      rw [Int.add_mul, Int.mul_assoc, Int.mul_comm 256 p]
      omega
    rw [e, numB_valB bs (q * 256 + (c.toNat : Int))]
    congr 1
    have h1 : ((q * 256 + (c.toNat : Int)) * 256 ^ bs.length + valB bs) / 256 ^ bs.length = q * 256 + (c.toNat : Int) := by
      rw [Int.add_comm, Int.add_mul_ediv_right _ _ (by omega), Int.ediv_eq_zero_of_lt hb.1 hb.2, Int.zero_add]
    rw [h1]
    unfold byteI
    apply UInt8.toNat_inj.1
    rw [UInt8.toNat_ofNat']
    omega
theorem numB_valB' (bs : List UInt8) : numB (valB bs) bs.length = bs := by
  have := numB_valB bs 0
  rwa [Int.zero_mul, Int.zero_add] at this

def locB (l : Lc) : List UInt8 := numB l.1 4 ++ (numB l.2.1 4 ++ numB l.2.2 2)
def locsB : List Lc → List UInt8
  | [] => []
  | l :: ls => locB l ++ locsB ls
theorem locB_length (l : Lc) : (locB l).length = 10 := by simp [locB, numB_length]
theorem locsB_length : ∀ ls, (locsB ls).length = 10 * ls.length
  | [] => rfl
  | l :: ls => by rw [locsB, List.length_append, locB_length, locsB_length ls, List.length_cons]; omega
theorem locsB_append : ∀ a b, locsB (a ++ b) = locsB a ++ locsB b
  | [], _ => rfl
  | l :: a, b => by rw [List.cons_append, locsB, locsB, locsB_append a b, List.append_assoc]
def keyP (k : List UInt8) : List UInt8 := byteI k.length :: k
def bodyR (r : Rc) : List UInt8 :=
  if r.kind = 1 then numB r.id 6 ++ (numB r.no 2 ++ r.b)
  else if r.kind = 2 then keyP r.key ++ (numB r.id 6 ++ (numB r.size 3 ++ (numB r.locs.length 2 ++ locsB r.locs)))
  else if r.kind = 3 then keyP r.key ++ r.b
  else r.key
/-- A record's bytes; nothing, if it is not right. -/
def putR (r : Rc) : List UInt8 := if RightR r then byteI r.kind :: bodyR r else []

/-- Bytes of which a record is got, part by part; and whether a part was not there whole. -/
abbrev Src := List UInt8 × Bool
def takeS (s : Src) (n : Int) : List UInt8 × Src := if s.2 = true ∨ (s.1.length : Int) < n then ([], (s.1, true)) else (s.1.take n.toNat, (s.1.drop n.toNat, false))
def numS (s : Src) (k : Int) : Int × Src := (valB (takeS s k).1, (takeS s k).2)
def keyS (s : Src) : List UInt8 × Src := takeS (numS s 1).2 (numS s 1).1
def restS (s : Src) : List UInt8 × Src := takeS s s.1.length
def locS (s : Src) : Lc × Src :=
  let x := numS s 4
  let y := numS x.2 4
  let z := numS y.2 2
  ((x.1, y.1, z.1), z.2)
def locsL : Nat → Src → List Lc → List Lc × Src
  | 0, s, acc => (acc, s)
  | k + 1, s, acc => if (locS s).2.2 = true then ([], (locS s).2) else locsL k (locS s).2 (acc ++ [(locS s).1])
def locsS (s : Src) : List Lc × Src := locsL (numS s 2).1.toNat (numS s 2).2 []
def pieceS (s : Src) : Rc × Src :=
  let x := numS s 6
  let y := numS x.2 2
  let z := restS y.2
  (⟨0, [], x.1, y.1, 0, [], z.1⟩, z.2)
def rootS (s : Src) : Rc × Src :=
  let k := keyS s
  let x := numS k.2 6
  let y := numS x.2 3
  let z := locsS y.2
  (⟨0, k.1, x.1, 0, y.1, z.1, []⟩, z.2)
def inlineS (s : Src) : Rc × Src :=
  let k := keyS s
  let z := restS k.2
  (⟨0, k.1, 0, 0, 0, [], z.1⟩, z.2)
def tombS (s : Src) : Rc × Src := (⟨0, (restS s).1, 0, 0, 0, [], []⟩, (restS s).2)
def partS (k : Int) (s : Src) : Rc × Src := if k = 1 then pieceS s else if k = 2 then rootS s else if k = 3 then inlineS s else tombS s
/-- The record of bytes, if there is one. -/
def getR : List UInt8 → Option Rc
  | [] => Option.none
  | c :: bs =>
    if 1 ≤ c.toNat ∧ c.toNat ≤ 4 then
      if ((partS c.toNat (bs, false)).2.2 = false ∧ (partS c.toNat (bs, false)).2.1 = []) ∧ RightR { (partS c.toNat (bs, false)).1 with kind := c.toNat } then some { (partS c.toNat (bs, false)).1 with kind := c.toNat } else Option.none
    else Option.none
end Go.Proofs.Ytdkpbphgaenlnaa

/-
  Records there and back, told plainly: a right record is got of its bytes; what is got of any bytes is right, and has them; how long bytes are; what is cut, or longer. No program in sight.
-/
namespace Go.Proofs.Ytdkpbphgaenlnaa

theorem takeS_all (a b : List UInt8) (n : Nat) (h : a.length = n) : takeS (a ++ b, false) (n : Int) = (a, (b, false)) := by
  subst h
  unfold takeS
  rw [if_neg (by rintro (h | h); cases h; simp at h; omega)]
  simp
theorem numS_all (x : Int) (k : Nat) (b : List UInt8) (h0 : 0 ≤ x) (h : x < 256 ^ k) : numS (numB x k ++ b, false) (k : Int) = (x, (b, false)) := by
  unfold numS
  rw [takeS_all _ _ k (numB_length x k)]
  dsimp only
  rw [valB_of x k h0 h]
theorem keyS_all (k b : List UInt8) (h : k.length ≤ 64) : keyS (keyP k ++ b, false) = (k, (b, false)) := by
  have h1 : numS (keyP k ++ b, false) 1 = ((k.length : Int), (k ++ b, false)) := by
    have := numS_all (k.length : Int) 1 (k ++ b) (by omega) (by omega)
    have e : numB (k.length : Int) 1 ++ (k ++ b) = keyP k ++ b := by simp [numB, keyP]
    rw [e] at this
    exact this
  unfold keyS
  rw [h1]
  exact takeS_all k b k.length rfl
theorem restS_all (b : List UInt8) : restS (b, false) = (b, ([], false)) := by
  have := takeS_all b [] b.length rfl
  rw [List.append_nil] at this
  exact this
theorem locS_all (l : Lc) (b : List UInt8) (h : LocOk l) : locS (locB l ++ b, false) = (l, (b, false)) := by
  obtain ⟨⟨h1, h2⟩, ⟨h3, h4⟩, h5, h6⟩ := h
  have e1 := numS_all l.1 4 (numB l.2.1 4 ++ (numB l.2.2 2 ++ b)) h1 (by omega)
  have e2 := numS_all l.2.1 4 (numB l.2.2 2 ++ b) h3 (by omega)
  have e3 := numS_all l.2.2 2 b (by omega) (by omega)
  have e : locB l ++ b = numB l.1 4 ++ (numB l.2.1 4 ++ (numB l.2.2 2 ++ b)) := by simp [locB]
  unfold locS
  rw [e]
  rw [show ((4 : Nat) : Int) = 4 from rfl] at e1 e2
  rw [show ((2 : Nat) : Int) = 2 from rfl] at e3
  rw [e1]
  dsimp only
  rw [e2]
  dsimp only
  rw [e3]
theorem locsL_all : ∀ (ls : List Lc) (b : List UInt8) (acc : List Lc), (∀ l ∈ ls, LocOk l) → locsL ls.length (locsB ls ++ b, false) acc = (acc ++ ls, (b, false))
  | [], b, acc, _ => by simp [locsL, locsB]
  | l :: ls, b, acc, h => by
    rw [List.length_cons, locsL, locsB, List.append_assoc, locS_all l _ (h l (by simp))]
    dsimp only
    rw [if_neg (by simp), locsL_all ls b _ (fun x hx => h x (by simp [hx]))]
    simp
theorem locsS_all (ls : List Lc) (b : List UInt8) (hn : ls.length ≤ 512) (h : ∀ l ∈ ls, LocOk l) : locsS (numB ls.length 2 ++ (locsB ls ++ b), false) = (ls, (b, false)) := by
  have e := numS_all (ls.length : Int) 2 (locsB ls ++ b) (by omega) (by omega)
  rw [show ((2 : Nat) : Int) = 2 from rfl] at e
  unfold locsS
  rw [e]
  dsimp only
  rw [Int.toNat_natCast, locsL_all ls b [] h, List.nil_append]

theorem right_kind {r : Rc} (h : RightR r) : r.kind = 1 ∨ r.kind = 2 ∨ r.kind = 3 ∨ r.kind = 4 := by
  unfold RightR at h
  omega
theorem len_nil {α : Type} {l : List α} (h : l.length = 0) : l = [] := List.eq_nil_of_length_eq_zero h

/-- What its kind's way gets of a right record's bytes. -/
theorem part_back {r : Rc} (h : RightR r) : partS r.kind (bodyR r, false) = ({ r with kind := 0 }, ([], false)) := by
  obtain ⟨kd, ks, id, no, size, ls, bs⟩ := r
  unfold RightR at h
  rcases h with ⟨h1, h⟩ | ⟨h1, h⟩ | ⟨h1, h⟩ | ⟨h1, h⟩
  · dsimp only at h1
    subst h1
    obtain ⟨a1, a2, a3, ⟨a4, a5⟩, ⟨a6, a7⟩, a8, a9⟩ := h
    dsimp only at *
    have e1 := numS_all id 6 (numB no 2 ++ bs) a4 (by omega)
    have e2 := numS_all no 2 bs a6 (by omega)
    rw [show ((6 : Nat) : Int) = 6 from rfl] at e1
    rw [show ((2 : Nat) : Int) = 2 from rfl] at e2
    obtain rfl := len_nil (show ks.length = 0 by omega)
    obtain rfl := len_nil a3
    subst a2
    simp [partS, bodyR, pieceS, e1, e2, restS_all]
  · dsimp only at h1
    subst h1
    obtain ⟨a1, a2, ⟨a3, a4⟩, ⟨a5, a6⟩, ⟨a7, a8⟩, a9, a10, a11⟩ := h
    dsimp only at *
    obtain rfl := len_nil a2
    subst a1
    have e1 := numS_all id 6 (numB size 3 ++ (numB ls.length 2 ++ locsB ls)) a5 (by omega)
    have e2 := numS_all size 3 (numB ls.length 2 ++ locsB ls) (by omega) (by omega)
    have e3 := locsS_all ls [] a9 a10
    rw [show ((6 : Nat) : Int) = 6 from rfl] at e1
    rw [show ((3 : Nat) : Int) = 3 from rfl] at e2
    rw [List.append_nil] at e3
    simp [partS, bodyR, rootS, keyS_all _ _ a4, e1, e2, e3]
  · dsimp only at h1
    subst h1
    obtain ⟨⟨a1, a2, a3, a4⟩, ⟨a5, a6⟩, a7⟩ := h
    dsimp only at *
    obtain rfl := len_nil a4
    subst a1 a2 a3
    simp [partS, bodyR, inlineS, keyS_all _ _ a6, restS_all]
  · dsimp only at h1
    subst h1
    obtain ⟨⟨a1, a2, a3, a4⟩, ⟨a5, a6⟩, a7⟩ := h
    dsimp only at *
    obtain rfl := len_nil a4
    obtain rfl := len_nil a7
    subst a1 a2 a3
    simp [partS, bodyR, tombS, restS_all]
theorem byte_kind {r : Rc} (h : RightR r) : ((byteI r.kind).toNat : Int) = r.kind := by
  have := right_kind h
  rw [byteI_nat]
  omega
theorem getR_cons' (c : UInt8) (bs : List UInt8) : getR (c :: bs) = if 1 ≤ c.toNat ∧ c.toNat ≤ 4 then (if ((partS c.toNat (bs, false)).2.2 = false ∧ (partS c.toNat (bs, false)).2.1 = []) ∧ RightR { (partS c.toNat (bs, false)).1 with kind := c.toNat } then some { (partS c.toNat (bs, false)).1 with kind := c.toNat } else Option.none) else Option.none := rfl
/-- A right record is got of its bytes. -/
theorem get_put {r : Rc} (h : RightR r) : getR (putR r) = some r := by
  have hk := byte_kind h
  have hr := right_kind h
  unfold putR
  rw [if_pos h, getR_cons', if_pos (by omega), hk, part_back h, if_pos ⟨⟨rfl, rfl⟩, h⟩]
end Go.Proofs.Ytdkpbphgaenlnaa

/-
  What is got of any bytes is right, and has them; how long bytes are; what is cut, or longer. No program in sight.
-/
namespace Go.Proofs.Ytdkpbphgaenlnaa

theorem takeS_inv {s : Src} {n : Int} (hn : 0 ≤ n) (h : (takeS s n).2.2 = false) : s.2 = false ∧ s.1 = (takeS s n).1 ++ (takeS s n).2.1 ∧ ((takeS s n).1.length : Int) = n := by
  unfold takeS at *
  by_cases hc : s.2 = true ∨ (s.1.length : Int) < n
  · rw [if_pos hc] at h
    cases h
  · rw [if_neg hc]
    have h1 : ¬ s.2 = true := fun e => hc (.inl e)
    have h2 : ¬ (s.1.length : Int) < n := fun e => hc (.inr e)
    refine ⟨by simpa using h1, by simp, ?_⟩
    simp
    omega
theorem numS_inv {s : Src} {k : Nat} (h : (numS s (k : Int)).2.2 = false) : s.2 = false ∧ s.1 = numB (numS s (k : Int)).1 k ++ (numS s (k : Int)).2.1 ∧ 0 ≤ (numS s (k : Int)).1 := by
  obtain ⟨h1, h2, h3⟩ := takeS_inv (by omega) h
  refine ⟨h1, ?_, (valB_lt _).1⟩
  have hk : (takeS s (k : Int)).1.length = k := by omega
  have e := numB_valB' (takeS s (k : Int)).1
  rw [hk] at e
  show s.1 = numB (valB (takeS s (k : Int)).1) k ++ (takeS s (k : Int)).2.1
  rw [e]
  exact h2
theorem keyS_inv {s : Src} (h : (keyS s).2.2 = false) : s.2 = false ∧ s.1 = keyP (keyS s).1 ++ (keyS s).2.1 := by
  have h0 : 0 ≤ (numS s 1).1 := (valB_lt _).1
  obtain ⟨h1, h2, h3⟩ := takeS_inv h0 h
  obtain ⟨g1, g2, g3⟩ := numS_inv (s := s) (k := 1) h1
  refine ⟨g1, ?_⟩
  rw [show ((1 : Nat) : Int) = 1 from rfl] at g2
  rw [h2] at g2
  have e : numB (numS s 1).1 1 = [byteI ((keyS s).1.length : Int)] := by
    have : ((keyS s).1.length : Int) = (numS s 1).1 := h3
    rw [this]
    simp [numB]
  rw [e] at g2
  exact g2
theorem restS_inv {s : Src} (h : (restS s).2.2 = false) : s.2 = false ∧ s.1 = (restS s).1 := by
  obtain ⟨h1, h2, h3⟩ := takeS_inv (by omega) h
  refine ⟨h1, ?_⟩
  have h4 : (restS s).2.1 = [] := by
    have := congrArg List.length h2
    rw [List.length_append] at this
    have h5 : (restS s).1.length = s.1.length := by have : ((restS s).1.length : Int) = s.1.length := h3; omega
    exact List.eq_nil_of_length_eq_zero (by
      show (takeS s s.1.length).2.1.length = 0
      have h6 : (takeS s s.1.length).1.length = s.1.length := h5
      omega)
  have : s.1 = (restS s).1 ++ (restS s).2.1 := h2
  rw [h4, List.append_nil] at this
  exact this
theorem locS_inv {s : Src} (h : (locS s).2.2 = false) : s.2 = false ∧ s.1 = locB (locS s).1 ++ (locS s).2.1 := by
  have h1 : (numS (numS (numS s 4).2 4).2 2).2.2 = false := h
  obtain ⟨a1, a2, _⟩ := numS_inv (s := (numS (numS s 4).2 4).2) (k := 2) h1
  obtain ⟨b1, b2, _⟩ := numS_inv (s := (numS s 4).2) (k := 4) a1
  obtain ⟨c1, c2, _⟩ := numS_inv (s := s) (k := 4) b1
  refine ⟨c1, ?_⟩
  rw [show ((4 : Nat) : Int) = 4 from rfl] at b2 c2
  rw [show ((2 : Nat) : Int) = 2 from rfl] at a2
  rw [b2, a2] at c2
  rw [c2]
  simp [locB, locS]
theorem locsL_inv : ∀ (k : Nat) (s : Src) (acc : List Lc), (locsL k s acc).2.2 = false → ∃ ls, (locsL k s acc).1 = acc ++ ls ∧ ls.length = k ∧ s.2 = false ∧ s.1 = locsB ls ++ (locsL k s acc).2.1
  | 0, s, acc, h => ⟨[], by simp [locsL], rfl, h, by simp [locsL, locsB]⟩
  | k + 1, s, acc, h => by
    rw [locsL] at h ⊢
    by_cases hc : (locS s).2.2 = true
    · rw [if_pos hc] at h
      rw [hc] at h
      cases h
    · rw [if_neg hc] at h ⊢
      obtain ⟨ls, h1, h2, h3, h4⟩ := locsL_inv k _ _ h
      obtain ⟨g1, g2⟩ := locS_inv h3
      refine ⟨(locS s).1 :: ls, by rw [h1]; simp, by simp [h2], g1, ?_⟩
      rw [g2, h4]
      simp [locsB]
theorem locsS_inv {s : Src} (h : (locsS s).2.2 = false) : s.2 = false ∧ s.1 = numB ((locsS s).1.length : Int) 2 ++ (locsB (locsS s).1 ++ (locsS s).2.1) := by
  have h0 : 0 ≤ (numS s 2).1 := (valB_lt _).1
  obtain ⟨ls, h1, h2, h3, h4⟩ := locsL_inv _ _ _ h
  obtain ⟨g1, g2, _⟩ := numS_inv (s := s) (k := 2) h3
  rw [List.nil_append] at h1
  have h1' : (locsS s).1 = ls := h1
  refine ⟨g1, ?_⟩
  rw [show ((2 : Nat) : Int) = 2 from rfl] at g2
  rw [h4] at g2
  rw [h1', h2, show ((numS s 2).1.toNat : Int) = (numS s 2).1 by omega]
  exact g2
/-- Bytes of which a way gets something, and nothing is left over, are just that record's. -/
theorem part_inv {k : Int} {bs : List UInt8} (hk : k = 1 ∨ k = 2 ∨ k = 3 ∨ k = 4) (h : (partS k (bs, false)).2.2 = false ∧ (partS k (bs, false)).2.1 = []) : bs = bodyR { (partS k (bs, false)).1 with kind := k } := by
  obtain ⟨h1, h2⟩ := h
  rcases hk with rfl | rfl | rfl | rfl
  · have h1 : (pieceS (bs, false)).2.2 = false := h1
    obtain ⟨a1, a2⟩ := restS_inv (s := (numS (numS (bs, false) 6).2 2).2) h1
    obtain ⟨b1, b2, _⟩ := numS_inv (s := (numS (bs, false) 6).2) (k := 2) a1
    obtain ⟨c1, c2, _⟩ := numS_inv (s := (bs, false)) (k := 6) b1
    rw [show ((2 : Nat) : Int) = 2 from rfl] at b2
    rw [show ((6 : Nat) : Int) = 6 from rfl] at c2
    rw [b2, a2] at c2
    exact c2
  · have h1 : (rootS (bs, false)).2.2 = false := h1
    have h2 : (rootS (bs, false)).2.1 = [] := h2
    obtain ⟨a1, a2⟩ := locsS_inv (s := (numS (numS (keyS (bs, false)).2 6).2 3).2) h1
    obtain ⟨b1, b2, _⟩ := numS_inv (s := (numS (keyS (bs, false)).2 6).2) (k := 3) a1
    obtain ⟨c1, c2, _⟩ := numS_inv (s := (keyS (bs, false)).2) (k := 6) b1
    obtain ⟨d1, d2⟩ := keyS_inv (s := (bs, false)) c1
    have h3 : (locsS (numS (numS (keyS (bs, false)).2 6).2 3).2).2.1 = [] := h2
    rw [h3, List.append_nil] at a2
    rw [show ((3 : Nat) : Int) = 3 from rfl] at b2
    rw [show ((6 : Nat) : Int) = 6 from rfl] at c2
    rw [c2, b2, a2] at d2
    exact d2
  · have h1 : (inlineS (bs, false)).2.2 = false := h1
    obtain ⟨a1, a2⟩ := restS_inv (s := (keyS (bs, false)).2) h1
    obtain ⟨d1, d2⟩ := keyS_inv (s := (bs, false)) a1
    rw [a2] at d2
    exact d2
  · have h1 : (tombS (bs, false)).2.2 = false := h1
    obtain ⟨a1, a2⟩ := restS_inv (s := (bs, false)) h1
    exact a2
theorem byteI_self (c : UInt8) : byteI (c.toNat : Int) = c := by
  apply UInt8.toNat_inj.1
  have := byteI_nat (c.toNat : Int)
  have := c.toNat_lt
  omega
theorem put_get {bs : List UInt8} {r : Rc} (h : getR bs = some r) : RightR r ∧ putR r = bs := by
  match bs, h with
  | [], h => cases h
  | c :: bs, h =>
    rw [getR_cons'] at h
    by_cases hk : 1 ≤ c.toNat ∧ c.toNat ≤ 4
    · rw [if_pos hk] at h
      by_cases hc : ((partS c.toNat (bs, false)).2.2 = false ∧ (partS c.toNat (bs, false)).2.1 = []) ∧ RightR { (partS c.toNat (bs, false)).1 with kind := c.toNat }
      · rw [if_pos hc] at h
        injection h with h
        subst h
        refine ⟨hc.2, ?_⟩
        have hb := part_inv (k := (c.toNat : Int)) (by omega) hc.1
        unfold putR
        rw [if_pos hc.2, ← hb]
        congr 1
        exact byteI_self c
      · rw [if_neg hc] at h
        cases h
    · rw [if_neg hk] at h
      cases h

/-! How long bytes are. -/
theorem put_len {r : Rc} (h : RightR r) : ((putR r).length : Int) = (if r.kind = 2 then 13 + (r.key.length : Int) + 10 * (r.locs.length : Int) else if r.kind = 3 then 2 + (r.key.length : Int) + (r.b.length : Int) else if r.kind = 4 then 1 + (r.key.length : Int) else 9 + (r.b.length : Int)) := by
  have hr := right_kind h
  unfold putR bodyR
  rw [if_pos h]
  rcases hr with e | e | e | e <;> simp [e, numB_length, keyP, locsB_length] <;> omega
theorem put_body {r : Rc} (h : RightR r) : 1 ≤ (putR r).length ∧ (putR r).length ≤ 8192 := by
  have hl := put_len h
  unfold RightR at h
  rcases h with ⟨e, h⟩ | ⟨e, h⟩ | ⟨e, h⟩ | ⟨e, h⟩
  · rw [e] at hl
    simp at hl
    have := h.2.2.2.2.2
    omega
  · rw [e] at hl
    simp at hl
    have h1 := h.2.2.1.2
    have h2 := h.2.2.2.2.2.1
    omega
  · rw [e] at hl
    simp at hl
    have h1 := h.2.1.2
    have h2 := h.2.2
    omega
  · rw [e] at hl
    simp at hl
    have h1 := h.2.1.2
    omega
theorem put_ill {r : Rc} (h : ¬ RightR r) : putR r = [] := by unfold putR; rw [if_neg h]
theorem put_empty {r : Rc} : (putR r).length = 0 ↔ ¬ RightR r := by
  by_cases h : RightR r
  · have := put_body h
    constructor
    · intro h'; omega
    · intro h'; exact absurd h h'
  · rw [put_ill h]
    simp [h]
theorem put_small (r : Rc) : (putR r).length ≤ 8192 := by
  by_cases h : RightR r
  · exact (put_body h).2
  · rw [put_ill h]; simp
theorem put_head {r : Rc} (h : RightR r) : ∃ bs, putR r = byteI r.kind :: bs := ⟨bodyR r, by unfold putR; rw [if_pos h]⟩
/-- Unlike right records have unlike bytes. -/
theorem put_same {a b : Rc} (ha : RightR a) (hb : RightR b) : putR a = putR b ↔ a = b := by
  constructor
  · intro e
    have h1 := get_put ha
    rw [e, get_put hb] at h1
    injection h1 with h1
    exact h1.symm
  · intro e; rw [e]
end Go.Proofs.Ytdkpbphgaenlnaa
