/-
  The walks of rec's rest, usedUp, key (of a source), and of bytes.Clone.
-/
import Derived.Test.YtmfhpfehphbklaaRcNumS
import Derived.Test.YtmfhpfehphbklaaRcApp
import Derived.Lib.LazyBuf
namespace Go.Proofs.Ytmfhpfehphbklaa
open Go.RowKit
set_option linter.unusedSimpArgs false

theorem takeS_len (s : Src) (n : Int) : (takeS s n).1.length ≤ s.1.length ∧ (takeS s n).2.1.length ≤ s.1.length := by
  unfold takeS
  split
  · simp
  · simp; omega
theorem numS_len (s : Src) (n : Int) : (numS s n).2.1.length ≤ s.1.length := (takeS_len s n).2
theorem numS_nat (s : Src) (n : Int) : ∃ k : Nat, (numS s n).1 = (k : Int) := ⟨(valB (takeS s n).1).toNat, by have := (valB_lt (takeS s n).1).1; show valB _ = _; omega⟩
theorem numS_lt (s : Src) (k : Nat) (h : k ≤ 6) : (numS s (k : Int)).1 < 281474976710656 := (valB_small _ (by
  unfold takeS
  split
  · simp
  · simp; omega)).2
theorem At.up {w w' : World} {g : Nat} {s : Src} (h : At w g s) (hg : Grows w w') : At w' g s := by
  obtain ⟨A, n, c, hw, hl⟩ := h
  exact ⟨A, n, c, hg.whole hw, hl.carry (Below.mono hg (Nat.le_of_lt hw.lt))⟩
theorem At.lt {w : World} {g : Nat} {s : Src} (h : At w g s) : g < w.heap.size := by
  obtain ⟨A, n, c, hw, hl⟩ := h
  exact hw.lt

theorem rest_any (g : Nat) (s : Src) (w : World) (h : At w g s) (hs : s.1.length ≤ 140737488351232) :
    Calls Try.prog 94 #[.pointer (some ⟨g, 0, none⟩)] w fun e w' => ∃ A m c, e = .returned (.slice A m c) ∧ Low w' g A m c (restS s).1 ∧ At w' g (restS s).2 ∧ Turns g w w' := by
  have HT := Lib.hid (take_any g s s.1.length w h (by omega) hs)
  obtain ⟨A, m, c, hw, hl⟩ := h
  have c0 := hw.cell 0
  simp only [List.getElem?_toArray, List.getElem?_cons_zero, List.getElem?_cons_succ] at c0
  have hlen := Bytes.len hl.bytes
  unfold restS
  rw [hlen]
  rw [hlen] at HT
  clear hw hl
  go_enter Try.func94, Try.ntmps94
  go_wp2_with (fail)
  refine HT.out.mono ?_
  rintro e w1 ⟨A1, m1, c1, rfl, hr⟩
  have HR := Lib.hid hr
  clear hr
  go_wp2_with (fail)
  go_ret
  exact ⟨A1, m1, c1, rfl, HR.out⟩

theorem usedUp_any (g : Nat) (s : Src) (w : World) (h : At w g s) :
    Calls Try.prog 41 #[.pointer (some ⟨g, 0, none⟩)] w fun e w' => e = .returned (.bool (decide (s.2 = false ∧ s.1 = []))) ∧ w = w' := by
  obtain ⟨A, m, c, hw, hl⟩ := h
  have c0 := hw.cell 0
  have c1 := hw.cell 1
  simp only [List.getElem?_toArray, List.getElem?_cons_zero, List.getElem?_cons_succ] at c0 c1
  have hlen := Bytes.len hl.bytes
  obtain ⟨bs, short⟩ := s
  dsimp only at *
  have hm : (m = 0) ↔ bs = [] := by rw [← hlen]; exact List.length_eq_zero_iff
  clear hw hl
  cases short with
  | true =>
    go_enter Try.func41, Try.ntmps41
    go_wp2_with (fail)
    go_ret
    exact ⟨rfl, rfl⟩
  | false =>
    have HM := Lib.hid hm
    clear hm
    go_enter Try.func41, Try.ntmps41
    go_wp2_with (fail)
    go_ret
    refine ⟨ret_bool ?_, rfl⟩
    rw [Bool.eq_iff_iff]
    have := HM.out
    simp [← this]

theorem rclone_any (A : Option Addr) (n c : Nat) (bs : List UInt8) (w : World) (hs : Sl w A n c bs) (hn : n ≤ 140737488351232) :
    Calls Try.prog 93 #[.slice A n c] w fun e w' => ∃ A' m c', e = .returned (.slice A' m c') ∧ w'.ownsRow w.heap.size 5 1 (.slice A' m c') m (bs.map byteV) ∧ Below w.heap.size w w' := by
  have HS := Lib.hid hs
  have hlen := hs.len
  have heq := fun (a : Option Addr) (l c : Nat) (w : World) => Go.run_eql_slice_nil (P := Try.prog) w 23 5 a l c Try.underlying23
  clear hs
  cases A with
  | none =>
    have hc := HS.out.bare rfl
    have hcap := HS.out.cap
    have hb : bs = [] := List.eq_nil_of_length_eq_zero (by omega)
    subst hb
    go_enter Try.func93, Try.ntmps93
    go_wp2_with (fail)
    go_ret
    exact ⟨none, 0, 0, rfl, World.ownsRow_nil _ _ _ _, Below.refl _ _⟩
  | some ad =>
    go_enter Try.func93, Try.ntmps93
    go_wp2_with (at_builtin
                 refine list_app isSl_bytes isSl_bytes rfl (.tmp 5) (.tmp 6) rfl (base := w.heap.size) rfl (owned_none w) rfl (HS.out.alloc _) n (Nat.zero_add n) hn (le_alloc _ _) ?_
                 intro A2 c2 w2 ho2 hb2 hs2
                 have HO2 := Lib.hid ho2
                 have HB2 := Lib.hid (Below.trans (grows_alloc w _) hb2)
                 clear ho2 hb2 hs2)
    go_ret
    exact ⟨A2, n, c2, rfl, by simpa using HO2.out, HB2.out⟩

theorem keyS_any (g : Nat) (s : Src) (w : World) (h : At w g s) (hs : s.1.length ≤ 140737488351232) :
    Calls Try.prog 97 #[.pointer (some ⟨g, 0, none⟩)] w fun e w' => e = .returned (.string ⟨(keyS s).1.toArray⟩) ∧ At w' g (keyS s).2 ∧ Turns g w w' := by
  have h1 := num_any g s 1 w h (by omega) hs
  have h2 := fun w1 (h : At w1 g (numS s 1).2) (n : Nat) (hn : n ≤ 9223372036854775807) => take_any g (numS s 1).2 n w1 h hn (Nat.le_trans (numS_len s 1) hs)
  have hlt := numS_lt s 1 (by omega)
  obtain ⟨k, hk⟩ := numS_nat s 1
  unfold keyS
  rw [show ((1 : Nat) : Int) = 1 from rfl] at h1 hlt
  rw [hk] at h1 hlt
  rw [hk]
  generalize (numS s 1).2 = s1 at *
  have H1 := Lib.hid h1
  have H2 := Lib.hid h2
  clear h1 h2 h hk
  go_enter Try.func97, Try.ntmps97
  go_wp2_with (fail)
  refine H1.out.mono ?_
  rintro e w1 ⟨rfl, ha, ht⟩
  have HA := Lib.hid (And.intro ha ht)
  clear ha ht
  go_wp2_with (fail)
  refine (H2.out w1 HA.out.1 k (by omega)).mono ?_
  rintro e w2 ⟨A, m, c, rfl, hl, ha2, ht2⟩
  have hst := run_string (hl.sl (Nat.le_of_lt ha2.lt))
  have HA2 := Lib.hid (And.intro ha2 (HA.out.2.trans ht2))
  clear hl ha2 ht2
  go_wp2_with (fail)
  go_ret
  exact ⟨rfl, HA2.out⟩
end Go.Proofs.Ytmfhpfehphbklaa
