/-
  A disk that a law has made: in blocks from B on, apart from others that the law needs.
-/
import Derived.Test.YtmfhpfehphbklaaDkSame
namespace Go.Proofs.Ytmfhpfehphbklaa
open Go.RowKit Go.Maps Go.WideMaps
set_option linter.unusedVariables false
set_option linter.unusedSimpArgs false

/-- The disk m at block d, of blocks from B on; nothing below B has turned since w0; the blocks out are not its own. -/
def DkIn (B : Nat) (w0 w : World) (d : Nat) (out : Nat → Prop) (m : Dk) : Prop :=
  ∃ own G, DkAt w d own G m ∧ B ≤ d ∧ (∀ k, own k → B ≤ k) ∧ Below B w0 w ∧ B ≤ w.heap.size ∧ ∀ k, out k → k < w.heap.size ∧ k ≠ d ∧ ¬ own k
/-- What stays: below B, and the blocks out. -/
abbrev Stays (B : Nat) (out : Nat → Prop) (w w' : World) : Prop := Spares (fun k => B ≤ k ∧ ¬ out k) w w'
section
variable {B d K : Nat} {w0 w w' : World} {out : Nat → Prop} {m : Dk}
theorem Stays.grows (h : Grows w w') : Stays B out w w' := Spares.grows h
theorem DkIn.size (h : DkIn B w0 w d out m) : B ≤ w.heap.size := by obtain ⟨_, _, _, _, _, _, h, _⟩ := h; exact h
theorem DkIn.low (h : DkIn B w0 w d out m) : Below B w0 w := by obtain ⟨_, _, _, _, _, h, _⟩ := h; exact h
theorem DkIn.lt (h : DkIn B w0 w d out m) {k : Nat} (hk : out k) : k < w.heap.size := by obtain ⟨_, _, _, _, _, _, _, h⟩ := h; exact (h k hk).1
theorem DkIn.grow (h : DkIn B w0 w d out m) (hg : Grows w w') : DkIn B w0 w' d out m := by
  obtain ⟨own, G, h1, h2, h3, h4, h5, h6⟩ := h
  exact ⟨own, G, h1.grow hg, h2, h3, h4.trans (Below.mono hg h5), Nat.le_trans h5 hg.size, fun k hk => ⟨Nat.lt_of_lt_of_le (h6 k hk).1 hg.size, (h6 k hk).2⟩⟩
/-- What has been laid since lies apart, too. -/
theorem DkIn.more (h : DkIn B w0 w d out m) (hg : Grows w w') : DkIn B w0 w' d (fun k => out k ∨ (w.heap.size ≤ k ∧ k < w'.heap.size)) m := by
  obtain ⟨own, G, h1, h2, h3, h4, h5, h6⟩ := h
  refine ⟨own, G, h1.grow hg, h2, h3, h4.trans (Below.mono hg h5), Nat.le_trans h5 hg.size, ?_⟩
  rintro k (hk | hk)
  · exact ⟨Nat.lt_of_lt_of_le (h6 k hk).1 hg.size, (h6 k hk).2⟩
  · exact ⟨hk.2, fun e => by have := h1.top.lt; omega, fun e => by have := h1.rest.lt k e; omega⟩
theorem DkIn.less {out' : Nat → Prop} (h : DkIn B w0 w d out m) (ho : ∀ k, out' k → out k) : DkIn B w0 w d out' m := by
  obtain ⟨own, G, h1, h2, h3, h4, h5, h6⟩ := h
  exact ⟨own, G, h1, h2, h3, h4, h5, fun k hk => h6 k (ho k hk)⟩
theorem DkIn.new {x : Int} (h : DkNew w d w' (Dk.new x)) (hB : B ≤ w.heap.size) (hb : Below B w0 w) (hout : ∀ k, out k → k < w.heap.size) : DkIn B w0 w' d out (Dk.new x) := by
  obtain ⟨own, G, h1, h2, h3, h4⟩ := h
  exact ⟨own, G, h1, Nat.le_trans hB h2, fun k hk => Nat.le_trans hB (h3 k hk), hb.trans (Below.mono h4 hB), Nat.le_trans hB h4.size, fun k hk => ⟨Nat.lt_of_lt_of_le (hout k hk) h4.size, fun e => by have := hout k hk; omega, fun e => by have := hout k hk; have := h3 k e; omega⟩⟩
/-- A step of another's: the disk is as it was. -/
theorem DkIn.other (h : DkIn B w0 w d out m) {oth : Nat → Prop} (hs : Spares oth w w') (ho : ∀ k, oth k → k < w.heap.size → out k) (hB : ∀ k, oth k → B ≤ k) : DkIn B w0 w' d out m := by
  obtain ⟨own, G, h1, h2, h3, h4, h5, h6⟩ := h
  refine ⟨own, G, h1.spare hs fun k hk e => ?_, h2, h3, h4.trans (hs.below h5 fun k hk e => by have := hB k e; omega), Nat.le_trans h5 hs.size, fun k hk => ⟨Nat.lt_of_lt_of_le (h6 k hk).1 hs.size, (h6 k hk).2⟩⟩
  have := h6 k (ho k e (h1.lt hk))
  rcases hk with hk | hk
  · exact this.2.1 hk
  · exact this.2.2 hk

theorem DkIn.to {f : FuncId} {args : Array Value} {v : Ending} {m' : Dk} (h : DkIn B w0 w d out m) (hc : ∀ own G, DkAt w d own G m → (∀ k, own k → B ≤ k) → (∀ k, out k → k ≠ d ∧ ¬ own k) → Calls Try.prog f args w fun e w' => e = v ∧ DkTo w d own w' m') :
    Calls Try.prog f args w fun e w' => e = v ∧ DkIn B w0 w' d out m' ∧ Stays B out w w' := by
  obtain ⟨own, G, h1, h2, h3, h4, h5, h6⟩ := h
  refine (hc own G h1 h3 fun k hk => (h6 k hk).2).mono ?_
  rintro e w' ⟨rfl, own', G', k1, k2, k3⟩
  have k2' : Stays B out w w' := k2.wider fun k _ hk => ⟨hk.elim (fun e => e ▸ h2) (h3 k), fun ho => hk.elim (h6 k ho).2.1 (h6 k ho).2.2⟩
  refine ⟨rfl, ⟨own', G', k1, h2, fun k hk => (k3 k hk).elim (h3 k) (Nat.le_trans h5), h4.trans (k2'.below h5 fun k hk e => by have := e.1; omega), Nat.le_trans h5 k2'.size, fun k hk => ⟨Nat.lt_of_lt_of_le (h6 k hk).1 k2.size, (h6 k hk).2.1, fun e => ?_⟩⟩, k2'⟩
  rcases k3 k e with e | e
  · exact (h6 k hk).2.2 e
  · have := (h6 k hk).1; omega
theorem DkIn.did {f : FuncId} {args : Array Value} {r : Dk × Int} (h : DkIn B w0 w d out m) (hc : ∀ own G, DkAt w d own G m → (∀ k, own k → B ≤ k) → (∀ k, out k → k ≠ d ∧ ¬ own k) → Calls Try.prog f args w fun e w' => Did w d own r e w') {v : Int} {m' : Dk} (h1 : r.2 = v) (h2 : r.1 = m') :
    Calls Try.prog f args w fun e w' => e = .returned (.int .i64 v) ∧ DkIn B w0 w' d out m' ∧ Stays B out w w' := by
  subst h1 h2
  exact h.to hc

/-! The calls. -/
theorem create_in (n : Nm) (h : DkIn B w0 w d out m) (ok : DkOk K m) (hK : K ≤ 1000000000) (hn : n.length ≤ 1000000) {v : Int} {m' : Dk} (h1 : (m.create n).2 = v) (h2 : (m.create n).1 = m') : Calls Try.prog 26 #[.pointer (some ⟨d, 0, none⟩), .string ⟨n.toArray⟩] w fun e w' => e = .returned (.int .i64 v) ∧ DkIn B w0 w' d out m' ∧ Stays B out w w' :=
  h.did (fun own G ha _ _ => create_any w n ha (ok.fit hK) hn) h1 h2
theorem sync_in (n : Nm) (h : DkIn B w0 w d out m) (ok : DkOk K m) (hK : K ≤ 1000000000) (hn : n.length ≤ 1000000) {v : Int} {m' : Dk} (h1 : (m.sync n).2 = v) (h2 : (m.sync n).1 = m') : Calls Try.prog 28 #[.pointer (some ⟨d, 0, none⟩), .string ⟨n.toArray⟩] w fun e w' => e = .returned (.int .i64 v) ∧ DkIn B w0 w' d out m' ∧ Stays B out w w' :=
  h.did (fun own G ha _ _ => sync_any w n ha (ok.fit hK) (by unfold maxLen; omega)) h1 h2
theorem remove_in (n : Nm) (h : DkIn B w0 w d out m) (ok : DkOk K m) (hK : K ≤ 1000000000) (hn : n.length ≤ 1000000) {v : Int} {m' : Dk} (h1 : (m.remove n).2 = v) (h2 : (m.remove n).1 = m') : Calls Try.prog 37 #[.pointer (some ⟨d, 0, none⟩), .string ⟨n.toArray⟩] w fun e w' => e = .returned (.int .i64 v) ∧ DkIn B w0 w' d out m' ∧ Stays B out w w' :=
  h.did (fun own G ha _ _ => remove_any w n ha (ok.fit hK) hn) h1 h2
theorem rename_in (n to : Nm) (h : DkIn B w0 w d out m) (ok : DkOk K m) (hK : K ≤ 1000000000) (hn : n.length ≤ 1000000) (ht : to.length ≤ 1000000) {v : Int} {m' : Dk} (h1 : (m.rename n to).2 = v) (h2 : (m.rename n to).1 = m') : Calls Try.prog 36 #[.pointer (some ⟨d, 0, none⟩), .string ⟨n.toArray⟩, .string ⟨to.toArray⟩] w fun e w' => e = .returned (.int .i64 v) ∧ DkIn B w0 w' d out m' ∧ Stays B out w w' :=
  h.did (fun own G ha _ _ => rename_any w n to ha (ok.fit hK) hn ht) h1 h2
theorem syncDir_in (h : DkIn B w0 w d out m) (ok : DkOk K m) (hK : K ≤ 1000000000) {v : Int} {m' : Dk} (h1 : m.syncDir.2 = v) (h2 : m.syncDir.1 = m') : Calls Try.prog 29 #[.pointer (some ⟨d, 0, none⟩)] w fun e w' => e = .returned (.int .i64 v) ∧ DkIn B w0 w' d out m' ∧ Stays B out w w' :=
  h.did (fun own G ha _ _ => syncDir_any w ha (ok.fit hK)) h1 h2
/-- What is appended lies below B, or apart. -/
theorem append_in (n : Nm) {A : Option Addr} {nb cb : Nat} {bs : List UInt8} (h : DkIn B w0 w d out m) (ok : DkOk K m) (hK : K ≤ 1000000000) (hn : n.length ≤ 1000000) (hs : Sl w A nb cb bs) (hoff : ∀ ad, A = some ad → bs ≠ [] → ad.block < B ∨ out ad.block) (hnb : nb ≤ 1000000000) {v : Int} {m' : Dk} (h1 : (m.append n bs).2 = v) (h2 : (m.append n bs).1 = m') :
    Calls Try.prog 27 #[.pointer (some ⟨d, 0, none⟩), .string ⟨n.toArray⟩, .slice A nb cb] w fun e w' => e = .returned (.int .i64 v) ∧ DkIn B w0 w' d out m' ∧ Stays B out w w' := by
  have hd : B ≤ d := by obtain ⟨_, _, _, h, _⟩ := h; exact h
  exact h.did (fun own G ha hb ho => append_any w n ha (ok.fit hK) (by unfold maxLen; omega) hs (fun ad e hne => (hoff ad e hne).elim (fun hlt => ⟨by omega, fun e => by have := hb _ e; omega⟩) (ho _)) hnb) h1 h2
theorem fail_in (x : Int) (h : DkIn B w0 w d out m) : Calls Try.prog 46 #[.pointer (some ⟨d, 0, none⟩), .int .i64 x] w fun e w' => e = .returned (.tuple #[]) ∧ DkIn B w0 w' d out (m.setFail x) ∧ Stays B out w w' :=
  h.to fun own G ha _ _ => (fail_any w x ha).mono fun e w' ⟨he, h1, h2⟩ => ⟨he, DkTo.same h1 h2⟩
theorem cut_in (x : Int) (h : DkIn B w0 w d out m) : Calls Try.prog 30 #[.pointer (some ⟨d, 0, none⟩), .int .i64 x] w fun e w' => e = .returned (.tuple #[]) ∧ DkIn B w0 w' d out (m.setCut x) ∧ Stays B out w w' :=
  h.to fun own G ha _ _ => (cut_any w x ha).mono fun e w' ⟨he, h1, h2⟩ => ⟨he, DkTo.same h1 h2⟩
theorem boot_in (dirs : Int) {l : List Int} {A : Option Addr} {n c : Nat} (h : DkIn B w0 w d out m) (ok : DkOk K m) (hK : K ≤ 1000000000) (hI : Ints w A n c l) (hl : ∀ x ∈ l, -9223372036854775808 ≤ x ∧ x ≤ 9223372036854775807) (hoff : ∀ ad, A = some ad → l ≠ [] → ad.block < B ∨ out ad.block) :
    Calls Try.prog 31 #[.pointer (some ⟨d, 0, none⟩), .int .i64 dirs, .slice A n c] w fun e w' => e = .returned (.tuple #[]) ∧ DkIn B w0 w' d out (m.boot dirs l) ∧ Stays B out w w' := by
  have hd : B ≤ d := by obtain ⟨_, _, _, h, _⟩ := h; exact h
  exact h.to fun own G ha hb ho => boot_any w dirs ha (ok.fit hK) hI hl (fun ad e hne => (hoff ad e hne).elim (fun hlt => ⟨by omega, fun e => by have := hb _ e; omega⟩) (ho _))
theorem read_in (n : Nm) (x k : Int) (h : DkIn B w0 w d out m) (ok : DkOk K m) (hK : K ≤ 1000000000) (hn : n.length ≤ 1000000) (hx : -9223372036854775808 ≤ x ∧ x ≤ 9223372036854775807) (hk : -9223372036854775808 ≤ k ∧ k ≤ 9223372036854775807) {r : Option (List UInt8) × Int} (hr : m.read n x k = r) :
    Calls Try.prog 33 #[.pointer (some ⟨d, 0, none⟩), .string ⟨n.toArray⟩, .int .i64 x, .int .i64 k] w fun e w' => ReadTo w r e w' := by
  subst hr
  obtain ⟨own, G, h1, _⟩ := h
  exact read_any w n x k h1 (ok.fit hK) (by unfold maxLen; omega) hx hk
theorem size_in (n : Nm) (h : DkIn B w0 w d out m) (hn : n.length ≤ 1000000) {v : Int} {b : Bool} (h1 : m.size n = (v, b)) : Calls Try.prog 32 #[.pointer (some ⟨d, 0, none⟩), .string ⟨n.toArray⟩] w fun e w' => e = .returned (.tuple #[.int .i64 v, .bool b]) ∧ w = w' := by
  obtain ⟨own, G, h2, _⟩ := h
  have := size_any w h2 (n := n) (by unfold maxLen; omega)
  rw [h1] at this
  exact this
theorem done_in (h : DkIn B w0 w d out m) : Calls Try.prog 35 #[.pointer (some ⟨d, 0, none⟩)] w fun e w' => e = .returned (.int .i64 m.done) ∧ w = w' := by
  obtain ⟨own, G, h2, _⟩ := h
  exact done_any w h2
theorem down_in (h : DkIn B w0 w d out m) : Calls Try.prog 47 #[.pointer (some ⟨d, 0, none⟩)] w fun e w' => e = .returned (.bool m.down) ∧ w = w' := by
  obtain ⟨own, G, h2, _⟩ := h
  exact down_any w h2
theorem list_in (h : DkIn B w0 w d out m) (ok : DkOk K m) (hK : K ≤ 1000000000) : Calls Try.prog 34 #[.pointer (some ⟨d, 0, none⟩)] w fun e w' =>
    ∃ A c, e = .returned (.slice A m.names.length c) ∧ w'.ownsRow w.heap.size 9 1 (.slice A m.names.length c) m.names.length ((m.names.map (·.1)).map strB) ∧ Grows w w' := by
  obtain ⟨own, G, h2, _⟩ := h
  refine (list_any w h2 (ok.fit hK)).mono ?_
  rintro e w' ⟨v, rfl, hr, hg⟩
  obtain ⟨A, c, rfl, _⟩ := slice_of_owned hr
  exact ⟨A, c, rfl, hr, hg⟩
end
end Go.Proofs.Ytmfhpfehphbklaa
