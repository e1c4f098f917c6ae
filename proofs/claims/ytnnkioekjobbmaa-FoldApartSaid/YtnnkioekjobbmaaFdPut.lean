/-
  put of fold's heap; key.
-/
import Derived.Test.YtnnkioekjobbmaaFdDown
namespace Go.Proofs.Ytnnkioekjobbmaa
open Go.RowKit
set_option linter.unusedVariables false
set_option linter.unusedSimpArgs false

theorem put_none {w : World} {b : Nat} {no : Int} {A : Option Addr} {c : Nat} (hw : Whole w b 53 #[.int .i64 no, .slice A 0 c]) (h : Nat) :
    Calls Try.prog 22 #[.pointer (some ⟨h, 0, none⟩), .pointer (some ⟨b, 0, none⟩)] w fun e w' => e = .returned (.tuple #[]) ∧ w' = w := by
  have c1 := hw.cell 1
  simp only [List.getElem?_toArray, List.getElem?_cons_zero, List.getElem?_cons_succ] at c1
  clear hw
  go_enter Try.func22, Try.ntmps22
  go_wp2_with (fail)
  go_end0
  exact ⟨rfl, rfl⟩
theorem put_some {W0 : World} {h : Nat} {l : List El} {K : Nat → Prop} {w : World} (x : El) (hh : HpK W0 w h l (fun k => K k ∧ k ≠ x.blk)) (hK : ∀ k, w.heap.size ≤ k → K k) (hlo : ∀ k, K k → W0.heap.size ≤ k) (hx : ElIn W0 w x) (hxk : K x.blk) (hg : GoodE (l ++ [x])) (hl : l.length < 1000000) (hp : IsHeap ltE l.length l) :
    Calls Try.prog 22 #[.pointer (some ⟨h, 0, none⟩), elV x] w fun e w' => e = .returned (.tuple #[]) ∧ ∃ l', l'.Perm (l ++ [x]) ∧ IsHeap ltE l'.length l' ∧ HpK W0 w' h l' K ∧ Spares K w w' := by
  have HP := Lib.hid (hpush_any x hh hK hlo hx hxk hg hl hp)
  have c1 := hx.blk.cell 1
  simp only [List.getElem?_toArray, List.getElem?_cons_zero, List.getElem?_cons_succ] at c1
  have hn : 0 < x.n := by
    have h1 := hx.row.len
    have h2 := (hg.each x (List.mem_append_right _ (List.mem_singleton.2 rfl))).1
    have h3 := List.length_pos_iff.2 h2
    omega
  have hpos : (0 : Int) < (x.n : Int) := by omega
  obtain ⟨n, hn2⟩ : ∃ n, x.n = n := ⟨_, rfl⟩
  obtain ⟨b, hb⟩ : ∃ b, x.blk = b := ⟨_, rfl⟩
  unfold elV at HP ⊢
  rw [hn2, hb] at c1
  rw [hn2] at hpos
  rw [hb] at HP ⊢
  clear hh hK hlo hx hxk hg hl hp hn hn2 hb
  go_enter Try.func22, Try.ntmps22
  go_wp2_with (fail)
  refine HP.out.mono ?_
  rintro e w1 ⟨rfl, h1⟩
  have H1 := Lib.hid h1
  clear h1
  go_wp2_with (fail)
  go_end0
  exact ⟨rfl, H1.out⟩
/-- What is put back: a list of which something is left, or none. -/
theorem put_any {W0 : World} {h : Nat} {l : List El} {K : Nat → Prop} {w : World} (x : El) (hh : HpK W0 w h l (fun k => K k ∧ k ≠ x.blk)) (hK : ∀ k, w.heap.size ≤ k → K k) (hlo : ∀ k, K k → W0.heap.size ≤ k)
    (hb : Whole w x.blk 53 #[.int .i64 (x.no : Int), .slice (some x.ad) x.n x.c]) (hn : x.hs.length = x.n) (hx : x.hs ≠ [] → ElIn W0 w x) (hxk : K x.blk) (hg : x.hs ≠ [] → GoodE (l ++ [x])) (hl : l.length < 1000000) (hp : IsHeap ltE l.length l) :
    Calls Try.prog 22 #[.pointer (some ⟨h, 0, none⟩), elV x] w fun e w' => e = .returned (.tuple #[]) ∧ ∃ l', ((x.hs = [] ∧ l'.Perm l) ∨ (x.hs ≠ [] ∧ l'.Perm (l ++ [x]))) ∧ IsHeap ltE l'.length l' ∧ HpK W0 w' h l' K ∧ Whole w' x.blk 53 #[.int .i64 (x.no : Int), .slice (some x.ad) x.n x.c] ∧ Spares K w w' := by
  by_cases h0 : x.hs = []
  · have hn0 : x.n = 0 := by rw [← hn, h0]; rfl
    rw [hn0] at hb ⊢
    refine (put_none hb h).mono ?_
    rintro e w' ⟨rfl, rfl⟩
    exact ⟨rfl, l, .inl ⟨h0, List.Perm.refl _⟩, hp, hh.wider fun k _ hk => hk.1, hb, Spares.refl _ _⟩
  · refine (put_some x hh hK hlo (hx h0) hxk (hg h0) hl hp).mono ?_
    rintro e w' ⟨rfl, l', p, hq, hk, hs⟩
    refine ⟨rfl, l', .inr ⟨h0, p⟩, hq, hk, ?_, hs⟩
    obtain ⟨A, c, hp', _⟩ := hk
    exact (hp'.els x (p.mem_iff.2 (List.mem_append_right _ (List.mem_singleton.2 rfl)))).blk
/-- The key on top. -/
theorem key_any {W0 : World} {h : Nat} {l : List El} {A : Option Addr} {c : Nat} {w : World} (hp : Hp W0 w h l A c) (hl : 0 < l.length) :
    Calls Try.prog 25 #[.slice A l.length c] w fun e w' => e = .returned (.string ⟨(keyE l[0]!).toArray⟩) ∧ w' = w := by
  obtain ⟨x, hx⟩ : ∃ x, l[0]? = some x := ⟨_, List.getElem?_eq_getElem hl⟩
  have ex : l[0]! = x := by rw [getElem!_def, hx]
  rw [ex]
  obtain ⟨g, cap, hv, hbg, hlt⟩ := hp.own.form hl
  injection hv with hA _ hc
  subst hA hc
  obtain ⟨n, hn⟩ : ∃ n, l.length = n := ⟨_, rfl⟩
  obtain ⟨hxn, hxn2, htx⟩ := hp.told hn hx
  obtain ⟨c0, c1, c2, c3⟩ := htx w (Grows.refl _)
  rw [hn] at hl ⊢
  obtain ⟨k, hk⟩ : ∃ k, keyE x = k := ⟨_, rfl⟩
  rw [hk] at c3 ⊢
  have k0 : (0 : Int) < (n : Int) := by omega
  have k1 : (0 : Int) < (x.n : Int) := by omega
  obtain ⟨_, xb, xa, xn, xc, _⟩ := x
  dsimp only at c0 c1 c2 c3 k1
  clear hp ex hx htx hk hn hxn2 hlt hbg hl hxn
  go_enter Try.func25, Try.ntmps25
  go_wp2_with (fail)
  go_ret
  exact ⟨rfl, rfl⟩
end Go.Proofs.Ytnnkioekjobbmaa
