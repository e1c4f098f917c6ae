/-
  The walk of rec's key (of made), and of putTomb.
-/
import Derived.Test.YtmfhpfehphbklaaRcNum
namespace Go.Proofs.Ytmfhpfehphbklaa
open Go.RowKit
set_option linter.unusedSimpArgs false

theorem str_size (ks : List UInt8) : (⟨ks.toArray⟩ : ByteArray).size = ks.length := by simp [ByteArray.size]
theorem numB_one (n : Int) : numB n 1 = [byteI n] := by simp [numB]

theorem keyPut_own (base : Nat) (A0 : Option Addr) (n0 c0 : Nat) (xs ks : List UInt8) (w : World) (ho : w.ownsRow base 5 1 (.slice A0 n0 c0) n0 (xs.map byteV)) (hb : base ≤ w.heap.size) (hn : n0 ≤ 1000000) (hk : ks.length ≤ 64) :
    Calls Try.prog 96 #[.slice A0 n0 c0, .string ⟨ks.toArray⟩] w fun e w' => ∃ A' c', e = .returned (.slice A' (n0 + 1 + ks.length) c') ∧ w'.ownsRow base 5 1 (.slice A' (n0 + 1 + ks.length) c') (n0 + 1 + ks.length) ((xs ++ keyP ks).map byteV) ∧ Below base w w' ∧ Stay w w' := by
  have HO := Lib.hid ho
  have hs := str_size ks
  clear ho
  go_enter Try.func96, Try.ntmps96
  go_wp2_with (fail)
  refine (number_own base A0 n0 c0 xs _ 1 _ HO.out hb hn (by omega)).mono ?_
  rintro e w1 ⟨A1, c1, rfl, ho1, hb1, hs1⟩
  have HO1 := Lib.hid ho1
  have HB1 := Lib.hid hb1
  have HS1 := Lib.hid hs1
  clear ho1 hb1 hs1
  go_wp2_with (at_builtin
               refine list_app_str isSl_made rfl (.tmp 8) (.tmp 9) rfl (base := base) rfl HO1.out (ks := ks) rfl (n0 + 1 + ks.length) rfl (by omega) (Nat.le_trans hb HB1.out.size) ?_
               intro A2 c2 w2 ho2 hb2 hs2
               have HO2 := Lib.hid ho2
               have HB2 := Lib.hid (And.intro (Below.trans HB1.out hb2) (Stay.trans HS1.out hs2))
               clear ho2 hb2 hs2)
  go_ret
  refine ⟨A2, c2, rfl, ?_, HB2.out⟩
  have := HO2.out
  rw [numB_one, List.append_assoc] at this
  exact this

theorem putTomb_own (base : Nat) (A0 : Option Addr) (n0 c0 : Nat) (xs ks : List UInt8) (kd id no size : Int) (LA : Option Addr) (ln lc : Nat) (BA : Option Addr) (bn bc : Nat) (w : World) (ho : w.ownsRow base 5 1 (.slice A0 n0 c0) n0 (xs.map byteV)) (hb : base ≤ w.heap.size) (hn : n0 ≤ 1000000) (hk : ks.length ≤ 64) :
    Calls Try.prog 78 #[.agg #[.int .i64 kd, .string ⟨ks.toArray⟩, .int .i64 id, .int .i64 no, .int .i64 size, .slice LA ln lc, .slice BA bn bc], .slice A0 n0 c0] w fun e w' => ∃ A' c', e = .returned (.slice A' (n0 + ks.length) c') ∧ w'.ownsRow base 5 1 (.slice A' (n0 + ks.length) c') (n0 + ks.length) ((xs ++ ks).map byteV) ∧ Below base w w' := by
  have HO := Lib.hid (owned_grow ho (grows_alloc w (.cells #[.int .i64 kd, .string ⟨ks.toArray⟩, .int .i64 id, .int .i64 no, .int .i64 size, .slice LA ln lc, .slice BA bn bc] 78)))
  clear ho
  go_enter Try.func78, Try.ntmps78
  go_wp2_with (at_builtin
               refine list_app_str isSl_made rfl (.tmp 5) (.tmp 7) rfl (base := base) rfl HO.out (ks := ks) rfl (n0 + ks.length) rfl (by omega) (by simp; omega) ?_
               intro A2 c2 w2 ho2 hb2 hs2
               have HO2 := Lib.hid ho2
               have HB2 := Lib.hid (Below.trans ((Below.refl _ w).alloc hb _) hb2)
               clear ho2 hb2 hs2)
  go_ret
  exact ⟨A2, c2, rfl, HO2.out, HB2.out⟩
end Go.Proofs.Ytmfhpfehphbklaa
