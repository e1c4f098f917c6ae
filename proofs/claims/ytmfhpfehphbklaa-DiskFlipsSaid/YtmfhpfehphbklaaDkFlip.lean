/-
  Bits of a file that turn.
-/
import Derived.Test.YtmfhpfehphbklaaDkIn
import Derived.Test.YtmfhpfehphbklaaDkDir
namespace Go.Proofs.Ytmfhpfehphbklaa
open Go.RowKit Go.Maps Go.WideMaps
set_option linter.unusedVariables false
set_option linter.unusedSimpArgs false

/-- What turns of the i-th byte. -/
def turnAt (t i0 i : Nat) : Nat := if i < i0 then 0 else t / 256 ^ (i - i0) % 256
def flipK (t i0 e : Nat) (bs : List UInt8) : List UInt8 := bs.mapIdx fun i b => if i < e then UInt8.ofNat (b.toNat ^^^ turnAt t i0 i) else b
/-- All of it. -/
def flipT (t i0 : Nat) (bs : List UInt8) : List UInt8 := bs.mapIdx fun i b => UInt8.ofNat (b.toNat ^^^ turnAt t i0 i)
theorem flipK_length (t i0 e : Nat) (bs : List UInt8) : (flipK t i0 e bs).length = bs.length := by simp [flipK]
theorem flipT_length (t i0 : Nat) (bs : List UInt8) : (flipT t i0 bs).length = bs.length := by simp [flipT]
theorem ofNat_toNat (b : UInt8) : UInt8.ofNat b.toNat = b := by simp
theorem flipK_start (t i0 : Nat) (bs : List UInt8) : flipK t i0 i0 bs = bs := by
  refine List.ext_getElem (flipK_length _ _ _ _) fun i h1 h2 => ?_
  simp only [flipK, List.getElem_mapIdx]
  split
  · rename_i h
    rw [turnAt, if_pos h, Nat.xor_zero, ofNat_toNat]
  · rfl
theorem flipK_end {t i0 e : Nat} {bs : List UInt8} (h : bs.length ≤ e ∨ (i0 ≤ e ∧ t / 256 ^ (e - i0) = 0)) : flipK t i0 e bs = flipT t i0 bs := by
  refine List.ext_getElem (by rw [flipK_length, flipT_length]) fun i h1 h2 => ?_
  rw [flipK_length] at h1
  simp only [flipK, flipT, List.getElem_mapIdx]
  split
  · rfl
  · rename_i hi
    rcases h with h | ⟨h0, h⟩
    · omega
    · rw [turnAt, if_neg (by omega), show i - i0 = (e - i0) + (i - e) by omega, Nat.pow_add, ← Nat.div_div_eq_div_mul, h, Nat.zero_div, Nat.zero_mod, Nat.xor_zero, ofNat_toNat]
theorem flipK_get {t i0 e : Nat} {bs : List UInt8} (h : e < bs.length) : (flipK t i0 e bs).getD e 0 = bs.getD e 0 := by
  rw [List.getD_eq_getElem?_getD, List.getD_eq_getElem?_getD, List.getElem?_eq_getElem (by rw [flipK_length]; exact h), List.getElem?_eq_getElem h]
  simp only [flipK, List.getElem_mapIdx, if_neg (Nat.lt_irrefl e)]
theorem flipK_step {t i0 e : Nat} {bs : List UInt8} (h : e < bs.length) (he : i0 ≤ e) : (flipK t i0 e bs).set e (UInt8.ofNat ((bs.getD e 0).toNat ^^^ (t / 256 ^ (e - i0) % 256))) = flipK t i0 (e + 1) bs := by
  refine List.ext_getElem (by simp [flipK_length]) fun i h1 h2 => ?_
  rw [flipK_length] at h2
  rw [List.getElem_set]
  split
  · rename_i hi
    subst hi
    simp only [flipK, List.getElem_mapIdx, if_pos (Nat.lt_succ_self e), turnAt, if_neg (show ¬ e < i0 by omega)]
    rw [List.getD_eq_getElem?_getD, List.getElem?_eq_getElem h]
    rfl
  · simp only [flipK, List.getElem_mapIdx]
    by_cases hie : i < e
    · rw [if_pos hie, if_pos (by omega)]
    · rw [if_neg hie, if_neg (by omega)]
theorem flip_set {t i0 e z : Nat} {bs : List UInt8} {b b' : UInt8} (h : e < bs.length) (he : i0 ≤ e) (hz : z = t / 256 ^ (e - i0) % 256) (hb : bs.getD e 0 = b) (hb' : UInt8.ofNat (b.toNat ^^^ z) = b') :
    ((flipK t i0 e bs).map byteV).set e (.int .u8 (b'.toNat : Nat)) = (flipK t i0 (e + 1) bs).map byteV := by
  subst hb hb' hz
  rw [← flipK_step h he, List.map_set]
  rfl

theorem xor_byte (b : UInt8) (z : Nat) (hz : z < 256) : bits BinOp.xor IntKind.u8 (b.toNat : Int) (z : Int) = ((UInt8.ofNat (b.toNat ^^^ z)).toNat : Int) := by
  have hb := b.toNat_lt
  rw [u8_xor _ _ hb hz]
  have hx : b.toNat ^^^ z < 2 ^ 8 := Nat.xor_lt_two_pow (by omega) (by omega)
  rw [UInt8.toNat_ofNat', Nat.mod_eq_of_lt hx]

section
variable {w : World} {b md n c kp : Nat} {g : Nat} {bs : List UInt8}
set_option maxHeartbeats 8000000 in
set_option maxRecDepth 100000 in
theorem flip_file (w : World) (h : Whole w b 98 #[.int .i64 (md : Int), .slice (some ⟨g, 0, none⟩) n c, .int .i64 (kp : Int)]) (hr : w.ownsRow 0 5 1 (.slice (some ⟨g, 0, none⟩) n c) n (bs.map byteV)) (hgb : b ≠ g) (hn : n ≤ 1000000000)
    (x : Nat) (hx : x < 8 * n) (z : Nat) (hz : z < 4294967296) :
    Calls Try.prog 67 #[.pointer (some ⟨b, 0, none⟩), .int .i64 (x : Int), .int .u32 (z : Int)] w fun e w' => e = .returned (.tuple #[]) ∧ w'.ownsRow 0 5 1 (.slice (some ⟨g, 0, none⟩) n c) n ((flipT (z * 2 ^ (x % 8)) (x / 8) bs).map byteV) ∧ Spares (fun k => k = g) w w' := by
  have hlb : bs.length = n := by have := hr.1; simpa using this
  have HLB := Lib.hid hlb
  have H := Lib.hid h
  have HR := Lib.hid hr
  have hq0 : x / 8 < n := by omega
  have hr0 : x % 8 < 8 := by omega
  have hq2 : ((x : Nat) : Int).tdiv 8 = ((x / 8 : Nat) : Int) := by rw [Int.tdiv_eq_ediv_of_nonneg (by omega)]; omega
  have hr2 : ((x : Nat) : Int).tmod 8 = ((x % 8 : Nat) : Int) := by rw [Int.tmod_eq_emod_of_nonneg (by omega)]; omega
  generalize hqe : x / 8 = q at *
  generalize hre : x % 8 = r at *
  have hzr : z * 2 ^ r < 1099511627776 := by
    have h1 : 2 ^ r ≤ 2 ^ 7 := Nat.pow_le_pow_right (by omega) (by omega)
    have h2 : z * 2 ^ r ≤ z * 2 ^ 7 := Nat.mul_le_mul_left z h1
    omega
  have hw1 : IntKind.u64.wrap (z : Int) = z := IntWalk.u64_in _ (by omega)
  have br0 : (0 : Int) ≤ (r : Int) := by omega
  have br1 : (r : Int) < 8 := by omega
  have hwr : IntKind.i64.wrap (r : Int) = r := IntWalk.i64_in _ (by omega)
  have hwq : IntKind.i64.wrap (q : Int) = q := IntWalk.i64_in _ (by omega)
  have hw2 : IntKind.u64.wrap ((z : Int) * 2 ^ r) = ((z * 2 ^ r : Nat) : Int) := by
    have e : ((z : Int) * 2 ^ r) = ((z * 2 ^ r : Nat) : Int) := by push_cast; rfl
    rw [e]
    exact IntWalk.u64_in _ (by omega)
  clear h hr hqe hre hlb
  go_enter Try.func67, Try.ntmps67
  go_wp2_with (fail)
  obtain ⟨t, hte⟩ : ∃ t, z * 2 ^ r = t := ⟨_, rfl⟩
  rw [hte] at hzr hw2
  have hts : (z : Int) * 2 ^ r = (t : Int) := by rw [← hte]; push_cast; rfl
  have HT := Lib.hid (And.intro hte hts)
  clear hte hw2 hts
  go_loopw [6, 7] (fun vt vi wr => ∃ (e T : Nat), q ≤ e ∧ e ≤ n ∧ T < 1099511627776 ∧ vt = .int .u64 (T : Nat) ∧ vi = .int .i64 (e : Nat) ∧ Hid (T = t / 256 ^ (e - q)) ∧ Hid (wr.ownsRow 0 5 1 (.slice (some ⟨g, 0, none⟩) n c) n ((flipK t q e bs).map byteV)) ∧ Hid (Spares (fun k => k = g) w wr)) (fun _ i _ => n - (intOf i).toNat)
  case atStart => exact ⟨q, t, Nat.le_refl _, by omega, hzr, by rw [HT.out.2], rfl, Lib.hid (by rw [Nat.sub_self, Nat.pow_zero, Nat.div_one]), Lib.hid (by rw [flipK_start]; exact HR.out), Lib.hid (Spares.refl _ _)⟩
  case round =>
    obtain ⟨e, T, hqe, hen, hT, rfl, rfl, HTT, HRR, HS⟩ := hrel
    have hwh : Whole wr b 98 #[.int .i64 (md : Int), .slice (some ⟨g, 0, none⟩) n c, .int .i64 (kp : Int)] := H.out.same (HS.out.same b H.out.lt hgb)
    have c1 : wr.cell? ⟨b, 1, none⟩ = some (.slice (some ⟨g, 0, none⟩) n c) := hwh.cell 1
    clear hwh
    by_cases hlt : e < n
    · by_cases hT0 : 0 < T
      · have heI : (e : Int) < (n : Int) := by omega
        have he0 : (0 : Int) ≤ (e : Int) := by omega
        have hTI : (0 : Int) < (T : Int) := by omega
        have hcell : wr.cell? ⟨g, e, none⟩ = some (.int .u8 ((bs.getD e 0).toNat : Nat)) := by
          rw [HRR.out.cellAt _ (by omega), List.getElem?_map, ← flipK_get (t := t) (i0 := q) (by rw [HLB.out]; exact hlt), List.getD_eq_getElem?_getD, List.getElem?_eq_getElem (by rw [flipK_length, HLB.out]; exact hlt)]
          rfl
        have hfree : wr.frozen? ⟨g, e, none⟩ = false := HRR.out.frozenAt _
        obtain ⟨y, hy⟩ : ∃ y, T % 256 = y := ⟨_, rfl⟩
        have hwy : IntKind.u8.wrap (T : Int) = (y : Int) := by rw [IntKind.wrap_u8']; omega
        have hy2 : y < 256 := by omega
        obtain ⟨b1, hb1⟩ : ∃ b1, bs.getD e 0 = b1 := ⟨_, rfl⟩
        rw [hb1] at hcell
        have hxb := xor_byte b1 y hy2
        obtain ⟨b2, hb2⟩ : ∃ b2, UInt8.ofNat (b1.toNat ^^^ y) = b2 := ⟨_, rfl⟩
        rw [hb2] at hxb
        have HBB := Lib.hid (And.intro hb1 (And.intro hb2 hy))
        have hwe : IntKind.i64.wrap ((e : Int) + 1) = (e : Int) + 1 := IntWalk.i64_in _ (by omega)
        clear hb1 hb2 hy
        go_wp2_with (fail)
        refine ⟨⟨e + 1, T / 256, by omega, hlt, by omega, by push_cast; rfl, rfl, Lib.hid ?_, Lib.hid ?_, Lib.hid (HS.out.setCell (p := ⟨g, e, none⟩) rfl _)⟩, ?_⟩
        · rw [HTT.out, show e + 1 - q = (e - q) + 1 by omega, Nat.pow_succ, Nat.div_div_eq_div_mul]
        · have hs := (HRR.out.stored e (.int .u8 (b2.toNat : Nat))).1
          rw [flip_set (by rw [HLB.out]; exact hlt) hqe (by rw [← HBB.out.2.2, HTT.out]) HBB.out.1 HBB.out.2.1] at hs
          exact hs
        · simp only [intOf]
          omega
      · obtain rfl : T = 0 := by omega
        go_wp2_with (fail)
        go_end0
        exact ⟨rfl, by rw [HT.out.1, ← flipK_end (e := e) (.inr ⟨hqe, HTT.out.symm⟩)]; exact HRR.out, HS.out⟩
    · have heI : ¬ (e : Int) < (n : Int) := by omega
      go_wp2_with (fail)
      go_end0
      exact ⟨rfl, by rw [HT.out.1, ← flipK_end (e := e) (.inl (by rw [HLB.out]; omega))]; exact HRR.out, HS.out⟩
end

/-- Bits of a file turn. -/
def Dk.flip (m : Dk) (n : Nm) (x : Int) (z : Nat) : Dk × Bool := match Dir.find n m.names with
  | none => (m, false)
  | some f => if x < 0 ∨ 8 * ((m.files f).bytes.length : Int) ≤ x then (m, false)
    else (m.setFile f ⟨flipT (z * 2 ^ (x.toNat % 8)) (x.toNat / 8) (m.files f).bytes, (m.files f).kept⟩, true)
section
variable {w : World} {d : Nat} {own : Nat → Prop} {G : Geo} {m : Dk}
theorem DkAt.turned {w' : World} (h : DkAt w d own G m) {f : Nat} (hf : f < m.made) {g : Nat} {c : Nat} (hA : G.row f = .slice (some ⟨g, 0, none⟩) (m.files f).bytes.length c) {bs : List UInt8} (hl : bs.length = (m.files f).bytes.length)
    (hr : w'.ownsRow 0 5 1 (.slice (some ⟨g, 0, none⟩) (m.files f).bytes.length c) (m.files f).bytes.length (bs.map byteV)) (hs : Spares (fun k => k = g) w w') : DkAt w' d own G (m.setFile f ⟨bs, (m.files f).kept⟩) := by
  have hgo : own g := h.rest.or f g hf (by rw [hA]; rfl)
  have hdg : d ≠ g := fun e => h.free (e ▸ hgo)
  have hlg : G.loc f ≠ g := fun e => by
    have h1 := h.rest.cells f hf
    obtain ⟨cur, h2⟩ := row_block (h.rest.rows f hf) (k := g) (by rw [hA]; rfl)
    unfold Whole at h1
    rw [e, h2] at h1
    injection h1 with h1
    injection h1 with _ h1 _
    cases h1
  have hrest := h.rest.filed (w' := w') (own' := own) hf (v := G.row f) (f := ⟨bs, (m.files f).kept⟩) ((h.rest.cells f hf).same (hs.same _ (h.rest.cells f hf).lt hlg)) (by rw [hA, hl]; exact hr) (fun k hk => hk) (fun k hk => Nat.lt_of_lt_of_le (h.rest.lt k hk) hs.size) (fun k hk => h.rest.or f k hf hk) (fun k hk => .inl hk)
    (fun k hk _ hne => hs.same k (h.rest.lt k hk) fun e => hne (by rw [e, hA]; rfl))
  have hgeo : ({ G with row := fun j => if j = f then G.row f else G.row j } : Geo) = G := by
    cases G with
    | mk a b c d e r =>
      congr 1
      funext j
      dsimp only
      split
      · rename_i hj; rw [hj]
      · rfl
  rw [hgeo] at hrest
  exact ⟨hrest, h.top.same (hs.same d h.top.lt hdg), h.free⟩
set_option maxHeartbeats 4000000 in
set_option maxRecDepth 100000 in
theorem flip_any (w : World) (n : Nm) (x : Int) (z : Nat) (h : DkAt w d own G m) (hF : DkFit m) (hn : n.length ≤ maxLen) (hx : -9223372036854775808 ≤ x ∧ x ≤ 9223372036854775807) (hz : z < 4294967296) :
    Calls Try.prog 39 #[.pointer (some ⟨d, 0, none⟩), .string ⟨n.toArray⟩, .int .i64 x, .int .u32 (z : Int)] w fun e w' => e = .returned (.bool (m.flip n x z).2) ∧ DkTo w d own w' (m.flip n x z).1 := by
  have c3 : w.cell? ⟨d, 3, none⟩ = some (.map (some G.nb)) := h.cell 3
  have hl := h.look hn
  cases hf : Dir.find n m.names with
  | none =>
    rw [hf, fileV_none hf] at hl
    unfold strB at hl
    simp only [Option.isSome] at hl
    have hs : m.flip n x z = (m, false) := by unfold Dk.flip; rw [hf]
    rw [hs]
    have H := Lib.hid h
    clear h hn hf hs hF
    go_enter Try.func39, Try.ntmps39
    go_wp2
    go_ret
    exact ⟨rfl, DkTo.same H.out (Spares.refl _ _)⟩
  | some f =>
    rw [hf, fileV_some hf] at hl
    unfold strB ptrV at hl
    simp only [Option.isSome] at hl
    have hlt := h.find_lt hn hf
    obtain ⟨A, c, hA, hbare⟩ := slice_of_owned (h.rest.rows f hlt)
    have hwh := h.rest.cells f hlt
    rw [hA] at hwh
    have c1 : w.cell? ⟨G.loc f, 1, none⟩ = some (.slice A (m.files f).bytes.length c) := hwh.cell 1
    have hfit := (hF.bytes f hlt).1
    obtain ⟨k, hk⟩ : ∃ k, (m.files f).bytes.length = k := ⟨_, rfl⟩
    have hw8 : IntKind.i64.wrap (8 * (k : Int)) = 8 * (k : Int) := IntWalk.i64_in _ (by omega)
    by_cases hx0 : x < 0
    · have hs : m.flip n x z = (m, false) := by unfold Dk.flip; rw [hf]; dsimp only; rw [if_pos (.inl hx0)]
      rw [hs]
      have H := Lib.hid h
      clear h hn hf hs hF hwh hA hbare hfit
      go_enter Try.func39, Try.ntmps39
      go_wp2
      go_ret
      exact ⟨rfl, DkTo.same H.out (Spares.refl _ _)⟩
    by_cases hx1 : 8 * (k : Int) ≤ x
    · have hs : m.flip n x z = (m, false) := by unfold Dk.flip; rw [hf]; dsimp only; rw [if_pos (.inr (by rw [hk]; exact hx1))]
      rw [hs]
      rw [hk] at c1
      have H := Lib.hid h
      clear h hn hf hs hF hwh hA hbare hfit
      generalize G.loc f = lf at *
      go_enter Try.func39, Try.ntmps39
      go_wp2
      go_ret
      exact ⟨rfl, DkTo.same H.out (Spares.refl _ _)⟩
    obtain ⟨y, rfl⟩ := Int.eq_ofNat_of_zero_le (show 0 ≤ x by omega)
    have hs : m.flip n y z = (m.setFile f ⟨flipT (z * 2 ^ (y % 8)) (y / 8) (m.files f).bytes, (m.files f).kept⟩, true) := by
      unfold Dk.flip; rw [hf]; dsimp only; rw [if_neg (by rw [hk]; omega)]; rfl
    rw [hs]
    rcases A with _ | ad
    · exfalso
      have hr := (h.rest.rows f hlt)
      rw [hA] at hr
      rcases hr.2 with ⟨_, h0⟩ | ⟨g, cap, cur, he, _⟩
      · omega
      · injection he with he; cases he
    obtain ⟨g, rfl⟩ : ∃ g, ad = ⟨g, 0, none⟩ := by
      have hr := (h.rest.rows f hlt)
      rw [hA] at hr
      rcases hr.2 with ⟨he, _⟩ | ⟨g, cap, cur, he, _⟩
      · injection he with he; cases he
      · injection he with he; injection he with he; exact ⟨g, he⟩
    have hlg : G.loc f ≠ g := fun e => by
      have h1 := h.rest.cells f hlt
      obtain ⟨cur, h2⟩ := row_block (h.rest.rows f hlt) (k := g) (by rw [hA]; rfl)
      unfold Whole at h1
      rw [e, h2] at h1
      injection h1 with h1
      injection h1 with _ h1 _
      cases h1
    have hrow := h.rest.rows f hlt
    rw [hA] at hrow
    have HC := Lib.hid (flip_file w hwh hrow hlg hfit y (by omega) z hz)
    have HT := Lib.hid (fun w' hr hs => h.turned (w' := w') hlt hA (flipT_length (z * 2 ^ (y % 8)) (y / 8) (m.files f).bytes) hr hs)
    have HOG := Lib.hid (h.rest.or f g hlt (by rw [hA]; rfl))
    rw [hk] at c1
    have hy1 : ¬ (8 * (k : Int) ≤ (y : Int)) := hx1
    have hy2 : ¬ ((y : Int) < 0) := hx0
    clear h hn hf hs hF hwh hA hbare hfit hrow hlg
    generalize G.loc f = lf at *
    go_enter Try.func39, Try.ntmps39
    go_wp2_with (fail)
    refine HC.out.mono ?_
    rintro e w' ⟨rfl, hr, hs⟩
    have HW := Lib.hid (And.intro (HT.out w' hr hs) hs)
    clear hr hs
    go_wp2_with (fail)
    go_ret
    exact ⟨rfl, _, _, HW.out.1, HW.out.2.wider fun k _ e => .inr (e ▸ HOG.out), fun k hk => .inl hk⟩
end
section
variable {B d K : Nat} {w0 w w' : World} {out : Nat → Prop} {m : Dk}
theorem flip_in (n : Nm) (x : Int) (z : Nat) (h : DkIn B w0 w d out m) (ok : DkOk K m) (hK : K ≤ 1000000000) (hn : n.length ≤ 1000000) (hx : -9223372036854775808 ≤ x ∧ x ≤ 9223372036854775807) (hz : z < 4294967296) {v : Bool} {m' : Dk} (h1 : m.flip n x z = (m', v)) :
    Calls Try.prog 39 #[.pointer (some ⟨d, 0, none⟩), .string ⟨n.toArray⟩, .int .i64 x, .int .u32 (z : Int)] w fun e w' => e = .returned (.bool v) ∧ DkIn B w0 w' d out m' ∧ Stays B out w w' :=
  h.to fun own G ha _ _ => by
    have := flip_any w n x z ha (ok.fit hK) (by unfold maxLen; omega) hx hz
    rw [h1] at this
    exact this
theorem DkOk.flip (h : DkOk K m) (n : Nm) (x : Int) (z : Nat) : DkOk K (m.flip n x z).1 := by
  unfold Dk.flip
  split
  · exact h
  · rename_i f hf
    split
    · exact h
    · refine ⟨h.cut, h.fail, h.made, h.pend, h.names, fun i hi => ?_⟩
      have h1 := h.bytes i hi
      show (if i = f then _ else _ : Fl).bytes.length ≤ K ∧ (if i = f then _ else _ : Fl).kept ≤ (if i = f then _ else _ : Fl).bytes.length
      split
      · rename_i e
        subst e
        rw [flipT_length]
        exact h1
      · exact h1
end
end Go.Proofs.Ytmfhpfehphbklaa
