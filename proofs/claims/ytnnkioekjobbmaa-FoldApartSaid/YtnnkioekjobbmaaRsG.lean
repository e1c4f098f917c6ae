/-
  Slices of structs, wherever they lie (no one type); an append to a row of one's own.
-/
import Derived.Test.YtnnkioekjobbmaaSlices
import Derived.Test.YtnnkioekjobbmaaFlat
import Derived.Test.YtnnkioekjobbmaaCame
import Derived.Test.YtnnkioekjobbmaaWalkBits
import Derived.Laws.AppendOwn
import Derived.Maps.AppendAt
import Derived.OwnWalkIn
import Derived.Lib.Hide
namespace Go.Proofs.Ytnnkioekjobbmaa
open Go.RowKit
set_option linter.unusedVariables false
set_option linter.unusedSimpArgs false
theorem slice_ownP {w : World} {base : Nat} {e : TypeId} {size : Nat} {v : Value} {n : Nat} {xs : List Value} (h : w.ownsRow base e size v n xs) : ∃ A c, v = .slice A n c := by
  rcases h.2 with ⟨rfl, rfl⟩ | ⟨g, cap, _, rfl, _⟩
  · exact ⟨none, 0, rfl⟩
  · exact ⟨_, cap, rfl⟩
theorem owned_lt3 {w : World} {base : Nat} {e : TypeId} {size : Nat} {v : Value} {n : Nat} {xs : List Value} (h : w.ownsRow base e size v n xs) {k : Nat} (hk : v.ownBlock = some k) : base ≤ k ∧ k < w.heap.size := by
  rcases h.2 with ⟨rfl, _⟩ | ⟨g, cap, cur, rfl, hb, hh, _⟩
  · simp [Value.ownBlock] at hk
  · obtain rfl : g = k := by simpa [Value.ownBlock] using hk
    exact ⟨hb, (Array.getElem?_eq_some_iff.1 hh).1⟩
theorem owned_same3 {w w' : World} {base : Nat} {e : TypeId} {size : Nat} {v : Value} {n : Nat} {xs : List Value} (h : w.ownsRow base e size v n xs) (hk : ∀ k, v.ownBlock = some k → w'.heap[k]? = w.heap[k]?) : w'.ownsRow base e size v n xs := by
  obtain ⟨h1, h2⟩ := h
  refine ⟨h1, ?_⟩
  rcases h2 with h2 | ⟨g, cap, cur, hv, hb, hh, r⟩
  · exact .inl h2
  · subst hv
    exact .inr ⟨g, cap, cur, rfl, hb, (hk g (by simp [Value.ownBlock])).trans hh, r⟩
section
variable {F : Fence} {n : Nat} {P : Program} {w : World} {ops : Array Oper} {rest : List Oper} {o : Oper} {a : Act} {Q : Exit → Act → World → Prop}
/-- 'append(s, x...)', s the call's own: where its new value lies, too. -/
theorem listIn_append_at (hg : o.guard = none) (s x : Operand) (t : TypeId) (hop : o.op = Op.call { callee := Callee.builtin Builtin.append, args := #[s, x], argTypes := #[t, t] })
    (base : Nat) (e : TypeId) (i : TypeInfo) (z : Value) (size bytes : Nat) (h1 : P.underlying t = some (.slice e)) (h2 : P.info? e = some i) (h3 : i.zero = some z) (h4 : i.size = size) (h5 : i.bytes = bytes) (h6 : z.cells.size = size) (h7 : 0 < size)
    (v : Value) (k : Nat) (xs : List Value) (hs : a.eval s = v) (hown : w.ownsRow base e size v k xs) (ad : Addr) (m c : Nat) (news : List Value) (hx : a.eval x = .slice (some ad) m c) (hn : news.length = m * size)
    (hc : ∀ j u, news[j]? = some u → w.cell? (ad.add j) = some u) (h1c : ∀ u ∈ news, u.oneCell' = true) (b1 : k + m ≤ maxLen) (b2 : (k + m) * bytes ≤ 140737488355328) (b3 : base ≤ w.heap.size)
    (hK : ∀ A' c' w', w'.ownsRow base e size (.slice A' (k + m) c') (k + m) (xs ++ news) → w.grownBy w' v.ownBlock → ((Value.slice A' (k + m) c').ownBlock = v.ownBlock ∨ (Value.slice A' (k + m) c').ownBlock = some w.heap.size) → wpListIn F n P ops Q rest (a.put o.dst (.slice A' (k + m) c')) w') :
    wpListIn F n P ops Q (o :: rest) a w := by
  refine wpListIn_plain hg fun K hK' => ?_
  obtain ⟨v', w', hrun, r1, r2, _, r3⟩ := run_append_own_at (P := P) (w := w) base t o.type e i z size bytes h1 h2 h3 h4 h5 h6 h7 v k xs hown ad m c news hn hc h1c b1 b2 b3
  obtain ⟨A', c', rfl⟩ := slice_ownP r1
  unfold Oper.wpIn
  refine ⟨?_, ?_⟩
  · simp [Oper.about, hop, resolve, Target.leads, Sem.run_pure]
  · rw [Oper.semAt_plain F _ _ (by rw [hop]; intro c hc'; cases hc')]
    simp only [execOp, hop, resolve, invoke, builtin, Sem.run_bind, Sem.run_pure, Result.andThen_ok, List.map_toArray, List.map_cons, List.map_nil, hs, hx, hrun]
    exact hK' _ _ (hK A' c' w' r1 r2 r3)
/-- The same outside a fence; x may be nil. -/
theorem list_append_at (hg : o.guard = none) (s x : Operand) (t : TypeId) (hop : o.op = Op.call { callee := Callee.builtin Builtin.append, args := #[s, x], argTypes := #[t, t] })
    (base : Nat) (e : TypeId) (i : TypeInfo) (z : Value) (size bytes : Nat) (h1 : P.underlying t = some (.slice e)) (h2 : P.info? e = some i) (h3 : i.zero = some z) (h4 : i.size = size) (h5 : i.bytes = bytes) (h6 : z.cells.size = size) (h7 : 0 < size)
    {v : Value} {k : Nat} {xs : List Value} (hs : a.eval s = v) (hown : w.ownsRow base e size v k xs) {A : Option Addr} {m c : Nat} {B : Nat} {news : List Value} (hx : a.eval x = .slice A m c) (hr : Row w B A (size * m) news) (hbare : A = none → c = 0)
    (h1c : ∀ u ∈ news, u.oneCell' = true) (j : Nat) (hj : k + m = j) (b1 : j ≤ maxLen) (b2 : j * bytes ≤ 140737488355328) (b3 : base ≤ w.heap.size)
    (hK : ∀ A' c' w', w'.ownsRow base e size (.slice A' j c') j (xs ++ news) → w.grownBy w' v.ownBlock → ((Value.slice A' j c').ownBlock = v.ownBlock ∨ (Value.slice A' j c').ownBlock = some w.heap.size) → wpList P ops Q rest (a.put o.dst (.slice A' j c')) w') :
    wpList P ops Q (o :: rest) a w := by
  subst hj
  refine wpList_plain hg fun K hK' => ?_
  have key : ∃ v' w', (Builtin.append_ #[t, t] o.type #[v, .slice A m c]).run P w = .ok v' w' ∧ w'.ownsRow base e size v' (k + m) (xs ++ news) ∧ w.grownBy w' v.ownBlock ∧ (v'.ownBlock = v.ownBlock ∨ v'.ownBlock = some w.heap.size) := by
    rcases A with _ | ad
    · have hnil : news = [] := by
        rcases news with _ | ⟨u, us⟩
        · rfl
        · obtain ⟨ad, he, _⟩ := hr.spot 0 u rfl
          cases he
      subst hnil
      have hm : m = 0 := by
        have := hr.len
        simp only [List.length_nil] at this
        rcases Nat.eq_zero_or_pos m with h | h
        · exact h
        · have := Nat.mul_pos h7 h; omega
      have hc := hbare rfl
      subst hm hc
      exact ⟨v, w, run_append_owned_none (P := P) (w := w) base t o.type e i size h1 h2 v k xs hown, by simpa using hown, World.grownBy.refl w _, .inl rfl⟩
    · obtain ⟨v', w', hrun, r1, r2, _, r3⟩ := run_append_own_at (P := P) (w := w) base t o.type e i z size bytes h1 h2 h3 h4 h5 h6 h7 v k xs hown ad m c news (by rw [hr.len, Nat.mul_comm])
        (fun j u hu => by obtain ⟨ad', he, _, hc⟩ := hr.spot j u hu; injection he with he; subst he; exact hc) h1c b1 b2 b3
      exact ⟨v', w', hrun, r1, r2, r3⟩
  obtain ⟨v', w', hrun, r1, r2, r3⟩ := key
  obtain ⟨A', c', rfl⟩ := slice_ownP r1
  unfold Oper.wp execOp
  simp only [hop, resolve, invoke, builtin, Sem.run_bind, Sem.run_pure, Result.andThen_ok, List.map_toArray, List.map_cons, List.map_nil, hs, hx, hrun]
  exact hK' _ _ (hK A' c' w' r1 r2 r3)
end
section
variable {α : Type}
/-- A slice of structs of k cells. -/
structure Rs (w : World) (A : Option Addr) (n c : Nat) (enc : α → List Value) (k : Nat) (l : List α) : Prop where
  len : l.length = n
  cap : n ≤ c
  bare : A = none → c = 0
  row : Row w w.heap.size A (k * n) (l.flatMap enc)
variable {enc : α → List Value} {k : Nat}
theorem Rs.grow {w w' : World} {A : Option Addr} {n c : Nat} {l : List α} (h : Rs w A n c enc k l) (hg : Grows w w') : Rs w' A n c enc k l := ⟨h.len, h.cap, h.bare, hg.row h.row⟩
theorem Rs.nil (w : World) : Rs w none 0 0 enc k [] := ⟨rfl, Nat.le_refl _, fun _ => rfl, Row.nil _ _ _⟩
theorem Rs.get (hk : ∀ a, (enc a).length = k) (h0 : 0 < k) {w : World} {A : Option Addr} {n c : Nat} {l : List α} (h : Rs w A n c enc k l) {i : Nat} (hi : i < n) :
    ∃ ad x, A = some ad ∧ l[i]? = some x ∧ ad.block < w.heap.size ∧ ∀ j u, (enc x)[j]? = some u → w.cell? ((ad.add (i * k)).add j) = some u := by
  have hl : i < l.length := by have := h.len; omega
  have hx : l[i]? = some l[i] := List.getElem?_eq_getElem hl
  have key : ∀ j u, (enc l[i])[j]? = some u → ∃ ad, A = some ad ∧ ad.block < w.heap.size ∧ w.cell? ((ad.add (i * k)).add j) = some u := by
    intro j u hj
    have hjk : j < k := by
      rw [← hk l[i]]
      exact (List.getElem?_eq_some_iff.1 hj).1
    have hf := flat_get hk l i j _ hx hjk
    rw [hj] at hf
    obtain ⟨ad, hA, hb, hc⟩ := h.row.spot _ _ hf
    exact ⟨ad, hA, hb, by rw [add_twice]; exact hc⟩
  obtain ⟨u0, h1⟩ : ∃ u, (enc l[i])[0]? = some u := ⟨(enc l[i])[0]'(by rw [hk]; exact h0), List.getElem?_eq_getElem _⟩
  obtain ⟨ad, hA, hb, _⟩ := key 0 _ h1
  refine ⟨ad, l[i], hA, hx, hb, fun j u hj => ?_⟩
  obtain ⟨ad', hA', _, hc⟩ := key j u hj
  rw [hA] at hA'
  injection hA' with hA'
  rw [hA']
  exact hc
theorem Rs.owned (hk : ∀ a, (enc a).length = k) {e : TypeId} {w : World} {base : Nat} {A : Option Addr} {n c : Nat} {l : List α} (hn : l.length = n) (h : w.ownsRow base e k (.slice A n c) n (l.flatMap enc)) : Rs w A n c enc k l := by
  refine ⟨hn, ?_, ?_, ?_⟩
  · rcases h.2 with ⟨h1, h2⟩ | ⟨g, cap, _, h1, _, _, h2, _⟩
    · omega
    · injection h1 with _ _ h1; omega
  · intro hA
    rcases h.2 with ⟨h1, h2⟩ | ⟨g, cap, _, h1, _⟩
    · injection h1
    · injection h1 with h1 _ _; rw [hA] at h1; cases h1
  · refine ⟨by rw [flat_length hk, hn, Nat.mul_comm], fun j v hv => ?_⟩
    have hpos : 0 < n := by
      rcases Nat.eq_zero_or_pos n with h0 | h0
      · subst h0
        have : l = [] := List.eq_nil_of_length_eq_zero hn
        subst this
        simp at hv
      · exact h0
    obtain ⟨g, cap, hval, _, hlt⟩ := h.form hpos
    injection hval with hA _ _
    subst hA
    exact ⟨_, rfl, hlt, h.cells (g := g) rfl j v hv⟩
/-- A literal. -/
theorem Rs.lit (hk : ∀ a, (enc a).length = k) {w : World} {g t : Nat} {cs : Array Value} (h : Whole w g t cs) (l : List α) {n : Nat} (he : cs = (l.flatMap enc).toArray) (hn : l.length = n) : Rs w (some ⟨g, 0, none⟩) n n enc k l :=
  ⟨hn, Nat.le_refl _, (fun h => by cases h), by rw [flat_length hk, hn, Nat.mul_comm], fun j v hv => ⟨⟨g, 0, none⟩, rfl, h.lt, by
    rw [show (⟨g, 0, none⟩ : Addr).add j = ⟨g, j, none⟩ by unfold Addr.add; split <;> simp_all, h.cell j, he]
    simpa using hv⟩⟩
end

theorem info_of {t : TypeId} {z : Value} {a b : Nat} (h : (Try.prog.info? t).map (fun i => (i.zero, i.size, i.bytes)) = some (some z, a, b)) : ∃ i, Try.prog.info? t = some i ∧ i.zero = some z ∧ i.size = a ∧ i.bytes = b := by
  cases h1 : Try.prog.info? t with
  | none => rw [h1] at h; cases h
  | some i =>
    rw [h1] at h
    simp only [Option.map_some, Option.some.injEq, Prod.mk.injEq] at h
    exact ⟨i, rfl, h.1, h.2.1, h.2.2⟩
theorem flat_snoc {α : Type} (enc : α → List Value) (l : List α) (x : α) : (l ++ [x]).flatMap enc = l.flatMap enc ++ enc x := by simp
end Go.Proofs.Ytnnkioekjobbmaa
