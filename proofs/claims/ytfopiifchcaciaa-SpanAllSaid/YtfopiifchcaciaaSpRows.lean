/-
  Slices of api.Part: three cells each; one part more.
-/
import Derived.Test.YtfopiifchcaciaaSpParts
import Derived.Laws.AppendOwn
import Derived.Maps.AppendAt
import Derived.OwnWalkIn
namespace Go.Proofs.Ytfopiifchcaciaa
open Go.RowKit
set_option linter.unusedVariables false
set_option linter.unusedSimpArgs false

theorem infoPart : (Try.prog.info? 40).map (fun i => (i.zero, i.size, i.bytes)) = some (some (.agg #[.int .i64 0, .int .i64 0, .int .i64 0]), 3, 24) := by kernel_rfl
def ptV (p : Pt) : List Value := [.int .i64 p.1, .int .i64 p.2.1, .int .i64 p.2.2]
def ptC : List Pt → List Value
  | [] => []
  | p :: ps => ptV p ++ ptC ps
theorem ptC_length : ∀ ps : List Pt, (ptC ps).length = 3 * ps.length
  | [] => rfl
  | p :: ps => by
    simp only [ptC, List.length_append, ptC_length ps, ptV, List.length_cons, List.length_nil]
    omega
theorem ptC_append : ∀ ps qs : List Pt, ptC (ps ++ qs) = ptC ps ++ ptC qs
  | [], qs => rfl
  | p :: ps, qs => by simp only [List.cons_append, ptC, ptC_append ps qs, List.append_assoc]
theorem ptC_get : ∀ (ps : List Pt) (i : Nat) (p : Pt), ps[i]? = some p → (ptC ps)[3 * i]? = some (.int .i64 p.1) ∧ (ptC ps)[3 * i + 1]? = some (.int .i64 p.2.1) ∧ (ptC ps)[3 * i + 2]? = some (.int .i64 p.2.2)
  | p :: ps, 0, _, h => by
    simp only [List.getElem?_cons_zero, Option.some.injEq] at h
    subst h
    exact ⟨rfl, rfl, rfl⟩
  | p :: ps, i + 1, p', h => by
    obtain ⟨h1, h2, h3⟩ := ptC_get ps i p' (by simpa using h)
    have e : ∀ k, (ptV p ++ ptC ps)[3 + k]? = (ptC ps)[k]? := fun k => by
      rw [List.getElem?_append_right (by simp [ptV])]
      simp [ptV]
    refine ⟨?_, ?_, ?_⟩
    · rw [show 3 * (i + 1) = 3 + 3 * i by omega]; exact (e _).trans h1
    · rw [show 3 * (i + 1) + 1 = 3 + (3 * i + 1) by omega]; exact (e _).trans h2
    · rw [show 3 * (i + 1) + 2 = 3 + (3 * i + 2) by omega]; exact (e _).trans h3
  | [], i, _, h => by simp at h
theorem ptV_one (p : Pt) : ∀ u ∈ ptV p, u.oneCell' = true := by
  intro u hu
  simp only [ptV, List.mem_cons, List.not_mem_nil, or_false] at hu
  rcases hu with rfl | rfl | rfl <;> rfl
theorem ptC_one : ∀ (ps : List Pt), ∀ u ∈ ptC ps, u.oneCell' = true
  | [], u, hu => by simp [ptC] at hu
  | p :: ps, u, hu => by
    rcases List.mem_append.1 hu with h | h
    · exact ptV_one p u h
    · exact ptC_one ps u h

/-- A slice of parts. -/
structure Pts (w : World) (A : Option Addr) (n c : Nat) (ps : List Pt) : Prop where
  len : ps.length = n
  cap : n ≤ c
  bare : A = none → c = 0
  row : Row w w.heap.size A (3 * n) (ptC ps)
theorem Pts.grow {w w' : World} {A : Option Addr} {n c : Nat} {ps : List Pt} (h : Pts w A n c ps) (hg : Grows w w') : Pts w' A n c ps := ⟨h.len, h.cap, h.bare, hg.row h.row⟩
theorem Pts.nil (w : World) : Pts w none 0 0 [] := ⟨rfl, Nat.le_refl _, fun _ => rfl, Row.nil _ _ _⟩
theorem Pts.get {w : World} {A : Option Addr} {n c : Nat} {ps : List Pt} (h : Pts w A n c ps) {i : Nat} (hi : i < n) :
    ∃ ad p, A = some ad ∧ ps[i]? = some p ∧ ad.block < w.heap.size ∧ w.cell? (ad.add (i * 3)) = some (.int .i64 p.1) ∧ w.cell? { block := (ad.add (i * 3)).block, off := (ad.add (i * 3)).off + 1 } = some (.int .i64 p.2.1) ∧
      w.cell? { block := (ad.add (i * 3)).block, off := (ad.add (i * 3)).off + 2 } = some (.int .i64 p.2.2) := by
  have hl : i < ps.length := by have := h.len; omega
  have hx : ps[i]? = some ps[i] := List.getElem?_eq_getElem hl
  obtain ⟨g1, g2, g3⟩ := ptC_get ps i _ hx
  obtain ⟨ad, hA, hb, c1⟩ := h.row.spot _ _ g1
  obtain ⟨ad2, hA2, _, c2⟩ := h.row.spot _ _ g2
  obtain ⟨ad3, hA3, _, c3⟩ := h.row.spot _ _ g3
  rw [hA] at hA2 hA3
  injection hA2 with hA2
  injection hA3 with hA3
  subst hA2 hA3
  have e1 : ad.add (3 * i) = ad.add (i * 3) := by rw [Nat.mul_comm]
  have e2 : ad.add (3 * i + 1) = { block := (ad.add (i * 3)).block, off := (ad.add (i * 3)).off + 1 } := by rw [Nat.mul_comm, ← add_twice, Addr.add_succ' (ad.add (i * 3)) 0]
  have e3 : ad.add (3 * i + 2) = { block := (ad.add (i * 3)).block, off := (ad.add (i * 3)).off + 2 } := by rw [Nat.mul_comm, ← add_twice, Addr.add_succ' (ad.add (i * 3)) 1]
  rw [e1] at c1
  rw [e2] at c2
  rw [e3] at c3
  exact ⟨ad, ps[i], hA, hx, hb, c1, c2, c3⟩
theorem Pts.owned {w : World} {base : Nat} {A : Option Addr} {n c : Nat} {ps : List Pt} (hn : ps.length = n) (h : w.ownsRow base 40 3 (.slice A n c) n (ptC ps)) : Pts w A n c ps := by
  refine ⟨hn, ?_, ?_, ?_⟩
  · rcases h.2 with ⟨h1, h2⟩ | ⟨g, cap, _, h1, _, _, h2, _⟩
    · omega
    · injection h1 with _ _ h1; omega
  · intro hA
    rcases h.2 with ⟨h1, h2⟩ | ⟨g, cap, _, h1, _⟩
    · injection h1
    · injection h1 with h1 _ _; rw [hA] at h1; cases h1
  · refine ⟨by rw [ptC_length, hn], fun k v hv => ?_⟩
    have hpos : 0 < n := by
      rcases Nat.eq_zero_or_pos n with h0 | h0
      · subst h0
        have : ps = [] := List.eq_nil_of_length_eq_zero hn
        subst this
        simp [ptC] at hv
      · exact h0
    obtain ⟨g, cap, hval, _, hlt⟩ := h.form hpos
    injection hval with hA _ _
    subst hA
    exact ⟨_, rfl, hlt, h.cells (g := g) rfl k v hv⟩
/-- A literal slice of parts. -/
theorem Pts.lit {w : World} {g t : Nat} {cs : Array Value} (h : Whole w g t cs) (ps : List Pt) {n : Nat} (he : cs = (ptC ps).toArray) (hn : ps.length = n) : Pts w (some ⟨g, 0, none⟩) n n ps :=
  ⟨hn, Nat.le_refl _, (fun h => by cases h), by rw [ptC_length, hn], fun k v hv => ⟨⟨g, 0, none⟩, rfl, h.lt, by
    rw [show (⟨g, 0, none⟩ : Addr).add k = ⟨g, k, none⟩ by unfold Addr.add; split <;> simp_all, h.cell k, he]
    simpa using hv⟩⟩

theorem slice_ownP {w : World} {base : Nat} {e : TypeId} {size : Nat} {v : Value} {n : Nat} {xs : List Value} (h : w.ownsRow base e size v n xs) : ∃ A c, v = .slice A n c := by
  rcases h.2 with ⟨rfl, rfl⟩ | ⟨g, cap, _, rfl, _⟩
  · exact ⟨none, 0, rfl⟩
  · exact ⟨_, cap, rfl⟩
theorem owned_lt3 {w : World} {base : Nat} {e : TypeId} {size : Nat} {v : Value} {n : Nat} {xs : List Value} (h : w.ownsRow base e size v n xs) {k : Nat} (hk : v.ownBlock = some k) : base ≤ k ∧ k < w.heap.size := by
  rcases h.2 with ⟨rfl, _⟩ | ⟨g, cap, cur, rfl, hb, hh, _⟩
  · simp [Value.ownBlock] at hk
  · obtain rfl : g = k := by simpa [Value.ownBlock] using hk
    exact ⟨hb, (Array.getElem?_eq_some_iff.1 hh).1⟩
theorem owned_same3 {w w' : World} {base : Nat} {e : TypeId} {size : Nat} {v : Value} {n : Nat} {xs : List Value} (h : w.ownsRow base e size v n xs) (hk : ∀ k, v.ownBlock = some k → w'.heap[k]? = w.heap[k]?) : w'.ownsRow base e size v n xs := by
  obtain ⟨h1, h2⟩ := h
  refine ⟨h1, ?_⟩
  rcases h2 with h2 | ⟨g, cap, cur, hv, hb, hh, r⟩
  · exact .inl h2
  · subst hv
    exact .inr ⟨g, cap, cur, rfl, hb, (hk g (by simp [Value.ownBlock])).trans hh, r⟩
/-- A literal's one part, in a block of its own. -/
theorem ptV_at {w : World} {g ty : Nat} {p : Pt} (hw : Whole w g ty #[.int .i64 p.1, .int .i64 p.2.1, .int .i64 p.2.2]) : ∀ j u, (ptV p)[j]? = some u → w.cell? ((⟨g, 0, none⟩ : Addr).add j) = some u := by
  intro j u hj
  rw [show (⟨g, 0, none⟩ : Addr).add j = ⟨g, j, none⟩ by unfold Addr.add; split <;> simp_all, hw.cell j]
  simpa [ptV] using hj
section
variable {F : Fence} {n : Nat} {P : Program} {w : World} {ops : Array Oper} {rest : List Oper} {o : Oper} {a : Act} {Q : Exit → Act → World → Prop}
/-- 'append(s, x...)', s the call's own: where its new value lies, too. -/
theorem listIn_append_at (hg : o.guard = none) (s x : Operand) (t : TypeId) (hop : o.op = Op.call { callee := Callee.builtin Builtin.append, args := #[s, x], argTypes := #[t, t] })
    (base : Nat) (e : TypeId) (i : TypeInfo) (z : Value) (size bytes : Nat) (h1 : P.underlying t = some (.slice e)) (h2 : P.info? e = some i) (h3 : i.zero = some z) (h4 : i.size = size) (h5 : i.bytes = bytes) (h6 : z.cells.size = size) (h7 : 0 < size)
    (v : Value) (k : Nat) (xs : List Value) (hs : a.eval s = v) (hown : w.ownsRow base e size v k xs) (ad : Addr) (m c : Nat) (news : List Value) (hx : a.eval x = .slice (some ad) m c) (hn : news.length = m * size)
    (hc : ∀ j u, news[j]? = some u → w.cell? (ad.add j) = some u) (h1c : ∀ u ∈ news, u.oneCell' = true) (b1 : k + m ≤ maxLen) (b2 : (k + m) * bytes ≤ 140737488355328) (b3 : base ≤ w.heap.size)
    (hK : ∀ A' c' w', w'.ownsRow base e size (.slice A' (k + m) c') (k + m) (xs ++ news) → w.grownBy w' v.ownBlock → ((Value.slice A' (k + m) c').ownBlock = v.ownBlock ∨ (Value.slice A' (k + m) c').ownBlock = some w.heap.size) → wpListIn F n P ops Q rest (a.put o.dst (.slice A' (k + m) c')) w') :
    wpListIn F n P ops Q (o :: rest) a w := by
  refine wpListIn_plain hg fun K hK' => ?_
  obtain ⟨v', w', hrun, r1, r2, _, r3⟩ := run_append_own_at (P := P) (w := w) base t o.type e i z size bytes h1 h2 h3 h4 h5 h6 h7 v k xs hown ad m c news hn hc h1c b1 b2 b3
  obtain ⟨A', c', rfl⟩ := slice_ownP r1
  unfold Oper.wpIn
  refine ⟨?_, ?_⟩
  · simp [Oper.about, hop, resolve, Target.leads, Sem.run_pure]
  · rw [Oper.semAt_plain F _ _ (by rw [hop]; intro c hc'; cases hc')]
    simp only [execOp, hop, resolve, invoke, builtin, Sem.run_bind, Sem.run_pure, Result.andThen_ok, List.map_toArray, List.map_cons, List.map_nil, hs, hx, hrun]
    exact hK' _ _ (hK A' c' w' r1 r2 r3)
/-- The same outside a fence; x may be nil. -/
theorem list_append_at (hg : o.guard = none) (s x : Operand) (t : TypeId) (hop : o.op = Op.call { callee := Callee.builtin Builtin.append, args := #[s, x], argTypes := #[t, t] })
    (base : Nat) (e : TypeId) (i : TypeInfo) (z : Value) (size bytes : Nat) (h1 : P.underlying t = some (.slice e)) (h2 : P.info? e = some i) (h3 : i.zero = some z) (h4 : i.size = size) (h5 : i.bytes = bytes) (h6 : z.cells.size = size) (h7 : 0 < size)
    {v : Value} {k : Nat} {xs : List Value} (hs : a.eval s = v) (hown : w.ownsRow base e size v k xs) {A : Option Addr} {m c : Nat} {B : Nat} {news : List Value} (hx : a.eval x = .slice A m c) (hr : Row w B A (size * m) news) (hbare : A = none → c = 0)
    (h1c : ∀ u ∈ news, u.oneCell' = true) (j : Nat) (hj : k + m = j) (b1 : j ≤ maxLen) (b2 : j * bytes ≤ 140737488355328) (b3 : base ≤ w.heap.size)
    (hK : ∀ A' c' w', w'.ownsRow base e size (.slice A' j c') j (xs ++ news) → w.grownBy w' v.ownBlock → ((Value.slice A' j c').ownBlock = v.ownBlock ∨ (Value.slice A' j c').ownBlock = some w.heap.size) → wpList P ops Q rest (a.put o.dst (.slice A' j c')) w') :
    wpList P ops Q (o :: rest) a w := by
  subst hj
  refine wpList_plain hg fun K hK' => ?_
  have key : ∃ v' w', (Builtin.append_ #[t, t] o.type #[v, .slice A m c]).run P w = .ok v' w' ∧ w'.ownsRow base e size v' (k + m) (xs ++ news) ∧ w.grownBy w' v.ownBlock ∧ (v'.ownBlock = v.ownBlock ∨ v'.ownBlock = some w.heap.size) := by
    rcases A with _ | ad
    · have hnil : news = [] := by
        rcases news with _ | ⟨u, us⟩
        · rfl
        · obtain ⟨ad, he, _⟩ := hr.spot 0 u rfl
          cases he
      subst hnil
      have hm : m = 0 := by
        have := hr.len
        simp only [List.length_nil] at this
        rcases Nat.eq_zero_or_pos m with h | h
        · exact h
        · have := Nat.mul_pos h7 h; omega
      have hc := hbare rfl
      subst hm hc
      exact ⟨v, w, run_append_owned_none (P := P) (w := w) base t o.type e i size h1 h2 v k xs hown, by simpa using hown, World.grownBy.refl w _, .inl rfl⟩
    · obtain ⟨v', w', hrun, r1, r2, _, r3⟩ := run_append_own_at (P := P) (w := w) base t o.type e i z size bytes h1 h2 h3 h4 h5 h6 h7 v k xs hown ad m c news (by rw [hr.len, Nat.mul_comm])
        (fun j u hu => by obtain ⟨ad', he, _, hc⟩ := hr.spot j u hu; injection he with he; subst he; exact hc) h1c b1 b2 b3
      exact ⟨v', w', hrun, r1, r2, r3⟩
  obtain ⟨v', w', hrun, r1, r2, r3⟩ := key
  obtain ⟨A', c', rfl⟩ := slice_ownP r1
  unfold Oper.wp execOp
  simp only [hop, resolve, invoke, builtin, Sem.run_bind, Sem.run_pure, Result.andThen_ok, List.map_toArray, List.map_cons, List.map_nil, hs, hx, hrun]
  exact hK' _ _ (hK A' c' w' r1 r2 r3)
end
theorem ptC_snoc (ps : List Pt) (p : Pt) : ptC (ps ++ [p]) = ptC ps ++ ptV p := by
  rw [ptC_append]
  simp [ptC]
end Go.Proofs.Ytfopiifchcaciaa
