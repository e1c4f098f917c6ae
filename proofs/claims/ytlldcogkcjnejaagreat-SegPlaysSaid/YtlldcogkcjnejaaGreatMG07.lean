import Derived.Test.YtlldcogkcjnejaaGreatMG06
import Derived.Maps.RangeWalk
import Derived.Shelf.SlMaps.Clone
import Derived.LoopTactic
import Derived.IntWalk
import Derived.Lib.Hide
import Derived.WalkLawsBesides
set_option linter.unusedVariables false
namespace Go.Proofs.YtlldcogkcjnejaaGreat
open Go.RowKit Go.Maps Go.WideMaps
def Ye (files : Nat → Fl) (names : Dir) (l : List Int) (lf : Lit → Bool) : Nat → Fl := fun i => if names.any (fun p => p.2 == i && !lf (.string p.1)) then (files i).lose (more l i) else files i
def Yt (files : Nat → Fl) (names : Dir) (l : List Int) (lf : Lit → Bool) : Int := (names.map fun p => if lf (.string p.1) then 0 else (((files p.2).lose (more l p.2)).bytes.length : Int)).sum
theorem Zkd (f : Fl) (x : Int) : (f.lose x).lose x = f.lose x := by
 unfold Fl.lose
 generalize hn : f.kept + (min (max x 0) ((f.bytes.length : Int) - f.kept)).toNat = n
 have h1 : (f.bytes.take n).length ≤ n := by rw [List.length_take]; omega
 have h2 : (min (max x 0) (((f.bytes.take n).length : Int) - n)).toNat = 0 := by omega
 simp only [h2, Nat.add_zero, List.take_take, Nat.min_self]
theorem Zme {l : Dir} {p : Nm × Nat} (h : p ∈ l) : Maps.has (encD (H := Unit) l) (.string p.1) = true := by
 rw [Zmx]
 unfold Dir.find
 rw [Option.isSome_map, List.find?_isSome]
 exact ⟨p, h, by simp⟩
section
variable (files : Nat → Fl) (l : List Int)
theorem Zke (names : Dir) : Ye files names l (Maps.has (encD (H := Unit) names)) = files ∧ Yt files names l (Maps.has (encD (H := Unit) names)) = 0 := by
 constructor
 ·funext i
  unfold Ye
  rw [if_neg]
  rw [Bool.not_eq_true, List.any_eq_false]
  intro p hp
  rw [Zme hp]
  simp
 ·unfold Yt
  have : (names.map fun p => if Maps.has (encD (H := Unit) names) (.string p.1) then (0 : Int) else (((files p.2).lose (more l p.2)).bytes.length : Int)) = names.map fun _ => 0 := List.map_congr_left fun p hp => by rw [Zme hp]; rfl
  rw [this]
  have z : ∀ l : Dir, (l.map fun _ => (0 : Int)).sum = 0 := fun l => by
   induction l with
   | nil => rfl
   | cons a r ih => simpa using ih
  exact z names
theorem Zoy {names : Dir} {lf : Lit → Bool} (h : ∀ kl, lf kl = false) :
 Ye files names l lf = (fun i => if names.any (fun p => p.2 == i) then (files i).lose (more l i) else files i) ∧ Yt files names l lf = (names.map fun p => ((((fun i => if names.any (fun p => p.2 == i) then (files i).lose (more l i) else files i) p.2 : Fl).bytes.length : Nat) : Int)).sum := by
 constructor
 ·funext i
  unfold Ye
  simp only [h, Bool.not_false, Bool.and_true]
 ·unfold Yt
  congr 1
  refine List.map_congr_left fun p hp => ?_
  have : names.any (fun q => q.2 == p.2) = true := List.any_eq_true.2 ⟨p, hp, by simp⟩
  simp [h, this]
theorem Zmf {names : Dir} (hnd : (names.map (·.1)).Nodup) {lf : Lit → Bool} {x : Nm} {f : Nat} (hf : Dir.find x names = some f) (hl : lf (.string x) = true) :
 Ye files names l (fun z => lf z && !z.sameKey (.string x)) = (fun i => if i = f then (Ye files names l lf f).lose (more l f) else Ye files names l lf i) ∧
 Yt files names l (fun z => lf z && !z.sameKey (.string x)) = Yt files names l lf + (((files f).lose (more l f)).bytes.length : Int) ∧ (Ye files names l lf f).lose (more l f) = (files f).lose (more l f) := by
 have hmem : (x, f) ∈ names := by
  unfold Dir.find at hf
  obtain ⟨p, hp, e⟩ := Option.map_eq_some_iff.1 hf
  have h1 := List.find?_some hp
  have h2 := List.mem_of_find?_eq_some hp
  have h1 : p.1 = x := by simpa using h1
  subst h1; subst e
  exact h2
 have huniq : ∀ p ∈ names, p.1 = x → p = (x, f) := fun p hp e => by
  have := (List.pairwise_map.1 hnd)
  rcases List.mem_iff_getElem.1 hp with ⟨i, hi, rfl⟩
  rcases List.mem_iff_getElem.1 hmem with ⟨j, hj, hj2⟩
  have hij : i = j := by
   rcases Nat.lt_trichotomy i j with h | h | h
   ·exact absurd (by rw [hj2]; exact e) (List.pairwise_iff_getElem.1 this i j hi hj h)
   ·exact h
   ·exact absurd (by rw [hj2]; exact e.symm) (List.pairwise_iff_getElem.1 this j i hj hi h)
  subst hij
  exact hj2
 have hidem : (Ye files names l lf f).lose (more l f) = (files f).lose (more l f) := by
  unfold Ye
  split
  ·exact Zkd _ _
  ·rfl
 refine ⟨?_, ?_, hidem⟩
 ·funext i
  by_cases hi : i = f
  ·subst hi
   rw [if_pos rfl, hidem]
   unfold Ye
   rw [if_pos]
   refine List.any_eq_true.2 ⟨_, hmem, ?_⟩
   simp [Zdr]
  ·rw [if_neg hi]
   unfold Ye
   have : (names.any fun p => p.2 == i && !(lf (.string p.1) && !(Lit.string p.1).sameKey (.string x))) = names.any fun p => p.2 == i && !lf (.string p.1) := by
    rw [Bool.eq_iff_iff, List.any_eq_true, List.any_eq_true]
    constructor
    ·rintro ⟨p, hp, h⟩
     simp only [Zdr, Bool.and_eq_true, beq_iff_eq, Bool.not_eq_true', Bool.and_eq_false_iff, Bool.not_eq_false'] at h
     obtain ⟨h1, h2⟩ := h
     refine ⟨p, hp, ?_⟩
     rcases h2 with h2 | h2
     ·simp [h1, h2]
     ·have := huniq p hp h2
      rw [this] at h1
      exact absurd h1.symm hi
    ·rintro ⟨p, hp, h⟩
     simp only [Bool.and_eq_true, beq_iff_eq, Bool.not_eq_true'] at h
     exact ⟨p, hp, by simp [h.1, h.2]⟩
   rw [this]
 ·unfold Yt
  clear hidem hf
  induction names with
  | nil => cases hmem
  | cons a r ih =>
    simp only [List.map_cons, List.nodup_cons] at hnd
    simp only [List.map_cons, List.sum_cons]
    by_cases ha : a = (x, f)
    ·subst ha
     have hr : (r.map fun p => if (lf (.string p.1) && !(Lit.string p.1).sameKey (.string x)) = true then (0 : Int) else (((files p.2).lose (more l p.2)).bytes.length : Int)) = r.map fun p => if lf (.string p.1) = true then (0 : Int) else (((files p.2).lose (more l p.2)).bytes.length : Int) :=
      List.map_congr_left fun p hp => by
       have : p.1 ≠ x := fun e => hnd.1 (List.mem_map.2 ⟨p, hp, e⟩)
       have : (p.1 == x) = false := by rw [beq_eq_false_iff_ne]; exact this
       simp [Zdr, this]
     rw [hr]
     simp [Zdr, hl]
     omega
    ·have hm : (x, f) ∈ r := by
      rcases List.mem_cons.1 hmem with e | e
      ·exact absurd e.symm ha
      ·exact e
     have hax : (a.1 == x) = false := by
      rw [beq_eq_false_iff_ne]
      exact fun e => ha (huniq a (List.mem_cons_self) e)
     rw [ih hnd.2 hm (fun p hp => huniq p (List.mem_cons_of_mem _ hp))]
     simp [Zdr, hax]
     omega
end
end Go.Proofs.YtlldcogkcjnejaaGreat
namespace Go.Proofs.YtlldcogkcjnejaaGreat
open Go.Lib (hid)
open Go.RowKit Go.Maps Go.WideMaps
attribute [local irreducible] Go.wpQuiet
theorem Ints.off {w w' : World} {A : Option Addr} {n c : Nat} {xs : List Int} (h : Ints w A n c xs) (hz : w.heap.size ≤ w'.heap.size) (hA : ∀ ad, A = some ad → xs ≠ [] → ad.block < w.heap.size → w'.heap[ad.block]? = w.heap[ad.block]?) : Ints w' A n c xs := by
 refine ⟨⟨h.row.len, fun k v hv => ?_⟩, h.cap, h.bare⟩
 obtain ⟨ad, he, hb, hc⟩ := h.row.spot k v hv
 refine ⟨ad, he, by omega, ?_⟩
 rw [← hc]
 refine World.cell?_of_block ?_
 rw [show (ad.add k).block = ad.block by unfold Addr.add; split <;> rfl]
 exact hA ad he (fun e => by rw [e] at hv; simp at hv) hb
theorem Zmd {w : World} {base : Nat} {e : TypeId} {size : Nat} {A : Option Addr} {n c k : Nat} {xs : List Value} (h : w.ownsRow base e size (.slice A n c) k xs) : n ≤ c := by
 rcases h.2 with ⟨e1, _⟩ | ⟨g, cap, cur, e1, _, _, e2, _⟩
 ·injection e1 with _ e1 e3; omega
 ·injection e1 with _ e1 e3; omega
theorem Zkb {w : World} {base : Nat} {e : TypeId} {A : Option Addr} {n c k : Nat} {xs : List Value} (h : w.ownsRow base e 1 (.slice A n c) n xs) (hk : k ≤ n) : w.ownsRow base e 1 (.slice A k c) k (xs.take k) := by
 obtain ⟨h1, h2⟩ := h
 refine ⟨by rw [List.length_take]; omega, ?_⟩
 rcases h2 with ⟨e1, e2⟩ | ⟨g, cap, cur, e1, hb, hh, r1, r2, r3, r4⟩
 ·injection e1 with e1 _ e3
  exact .inl ⟨by rw [e1, e3, show k = 0 by omega], by omega⟩
 ·injection e1 with e1 _ e3
  refine .inr ⟨g, cap, cur, by rw [e1, e3], hb, hh, by omega, r2, r3, ?_⟩
  rw [← r4, List.take_take]
  congr 1
  omega
section
variable {w : World} {d : Nat} {own : Nat → Prop} {G : Geo} {m : Dk}
theorem Z3.renamed {w w' : World} (h : Z3 w own G m) {nb : Nat} {l : Dir} (hn : Zct w' m.made G.loc nb l) (hnew : ¬ own nb) (hs : ∀ k, own k → w'.heap[k]? = w.heap[k]?) (hz : w.heap.size ≤ w'.heap.size) :
 Z3 w' (fun k => own k ∨ k = nb) { G with nb := nb } { m with names := l } := by
 have h' := h.stay hs hz
 constructor
 ·rintro k (hk | rfl)
  ·exact h'.lt k hk
  ·exact World.ownsMap.lt hn
 ·exact hn
 ·exact .inr rfl
 ·exact h'.kept
 ·exact .inl h'.ok
 ·exact fun e => hnew (by have e : nb = G.kb := e; exact e ▸ h.ok)
 ·exact h'.pend
 ·exact fun k hk => .inl (h'.op k hk)
 ·exact fun i v c h1 h2 => (h'.chs i v c h1 h2).stay (fun _ h => .inl h) (Nat.le_refl _) (fun _ _ => rfl) fun _ _ _ _ _ _ => rfl
 ·exact h'.inj
 ·exact h'.cells
 ·exact fun i hi => .inl (h'.ol i hi)
 ·exact h'.rows
 ·exact fun i k hi hk => .inl (h'.or i k hi hk)
 ·exact h'.apart
theorem DkAt.losing {w w' : World} (h : DkAt w d own G m) {f : Nat} (hf : f < m.made) (l : List Int) {A : Option Addr} {c : Nat} (hA : G.row f = .slice A (m.files f).bytes.length c) (hk : (m.files f).kept ≤ (m.files f).bytes.length)
 (hw : Whole w' (G.loc f) 114 #[.int .i64 (f : Int), .slice A (left l f (m.files f).bytes.length (m.files f).kept) c, .int .i64 (left l f (m.files f).bytes.length (m.files f).kept : Nat)]) (hs : Zc (fun k => k = G.loc f) w w') :
 DkAt w' d own { G with row := fun j => if j = f then .slice A (left l f (m.files f).bytes.length (m.files f).kept) c else G.row j } (m.setFile f ((m.files f).lose (more l f))) := by
 have hle := Zdp l f hk
 have hr := h.rest.rows f hf
 rw [hA] at hr
 have hsh := Zkb hr hle.1
 have hb : ∀ k, (Value.slice A (left l f (m.files f).bytes.length (m.files f).kept) c).ownBlock = some k → (G.row f).ownBlock = some k := fun k hk => by
  rw [hA]
  cases A <;> exact hk
 have hne : ∀ k, (G.row f).ownBlock = some k → k ≠ G.loc f := fun k hk e => by
  obtain ⟨cur, h1⟩ := Zs (h.rest.rows f hf) hk
  have h2 := h.rest.cells f hf
  unfold Whole at h2
  rw [← e, h1] at h2
  injection h2 with h2
  injection h2 with _ h2 _
  cases h2
 have e1 : (m.files f).lose (more l f) = ⟨(m.files f).bytes.take (left l f (m.files f).bytes.length (m.files f).kept), left l f (m.files f).bytes.length (m.files f).kept⟩ := rfl
 have hlen : ((m.files f).bytes.take (left l f (m.files f).bytes.length (m.files f).kept)).length = left l f (m.files f).bytes.length (m.files f).kept := by
  rw [List.length_take]; omega
 rw [e1]
 refine ⟨h.rest.filed hf hw ?_ (fun k hk => hk) (fun k hk => Nat.lt_of_lt_of_le (h.rest.lt k hk) hs.size) (fun k hk => h.rest.or f k hf (hb k hk)) (fun k hk => .inl (hb k hk)) (fun k hk h1 _ => hs.same k (h.rest.lt k hk) h1), ?_, h.free⟩
 ·show w'.ownsRow 0 5 1 _ ((m.files f).bytes.take (left l f (m.files f).bytes.length (m.files f).kept)).length (((m.files f).bytes.take (left l f (m.files f).bytes.length (m.files f).kept)).map byteV)
  rw [hlen, List.map_take]
  exact Zy hsh fun k hk => hs.same k (h.rest.lt k (h.rest.or f k hf (hb k hk))) (hne k (hb k hk))
 ·exact h.top.same (hs.same d h.top.lt fun e => h.free (e ▸ h.rest.ol f hf))
theorem J6 {H : Type} {P : Program} {k : TypeId} {R : Value → Option (DataW H × List MemPlace)} {w w' : World} {b r n : Nat} {D : DataW H} {lf : Lit → Bool} {cnt : Nat} (h : w.ranges P k R b r n D lf cnt) (e1 : w'.heap[b]? = w.heap[b]?) (e2 : w'.heap[r]? = w.heap[r]?) : w'.ranges P k R b r n D lf cnt := by
 obtain ⟨es, clock, since, seen, c0, hb, F, hs, hD, hr, rest⟩ := h
 exact ⟨es, clock, since, seen, c0, e1.trans hb, F, hs, hD, e2.trans hr, rest⟩
theorem Zow {files : Nat → Fl} {ns : Dir} {l : List Int} {lf : Lit → Bool} {i : Nat} (h : (files i).bytes.length ≤ 1000000000 ∧ (files i).kept ≤ (files i).bytes.length) : (Ye files ns l lf i).bytes.length ≤ 1000000000 ∧ (Ye files ns l lf i).kept ≤ (Ye files ns l lf i).bytes.length := by
 unfold Ye
 split
 ·have := Zdp l i h.2
  unfold left at this
  unfold Fl.lose
  dsimp only
  rw [List.length_take]
  omega
 ·exact h
theorem Zkc {made : Nat} {loc : Nat → Nat} {ns : Dir} {x : Nm} {c : Value} {yd : DataW Unit} {yp : List MemPlace} (hv : ptrR made loc c = some (yd, yp)) (hat : ∀ zd, (encD (H := Unit) ns).atKey (.string x) zd = yd) : ∃ f, Dir.find x ns = some f ∧ f < made ∧ c = .pointer (some ⟨loc f, 0, none⟩) := by
 cases hf : Dir.find x ns with
 | none =>
   have h1 := hat (.lit (.int .i64 0))
   have h2 := hat (.lit (.int .i64 1))
   rw [Zmw, hf] at h1 h2
   dsimp only at h1 h2
   rw [← h1] at h2
   simp only [DataW.lit.injEq, Lit.int.injEq] at h2
   omega
 | some f =>
   have h1 := hat (.lit (.int .i64 0))
   rw [Zmw, hf] at h1
   dsimp only at h1
   rcases Zdc hv with ⟨rfl, e⟩ | ⟨i, hi, rfl, e⟩
   ·simp only [Prod.mk.injEq] at e
    rw [← h1] at e
    simp only [DataW.lit.injEq, Lit.int.injEq] at e
    omega
   ·simp only [Prod.mk.injEq] at e
    rw [← h1] at e
    simp only [DataW.lit.injEq, Lit.int.injEq] at e
    obtain rfl : f = i := by omega
    exact ⟨f, rfl, hi, rfl⟩
set_option maxHeartbeats 8000000 in
set_option maxRecDepth 100000 in
theorem Zox (w : World) (dirs : Int) {l : List Int} {A : Option Addr} {n c : Nat} (h : DkAt w d own G m) (hF : DkFit m) (hI : Ints w A n c l) (hl : ∀ x ∈ l, -9223372036854775808 ≤ x ∧ x ≤ 9223372036854775807) (hoff : ∀ ad, A = some ad → l ≠ [] → ad.block ≠ d ∧ ¬ own ad.block) :
 Calls Tryz.prog 29 #[.pointer (some ⟨d, 0, none⟩), .int .i64 dirs, .slice A n c] w fun e w' => e = .returned (.tuple #[]) ∧ DkTo w d own w' (m.boot dirs l) := by
 obtain ⟨k, hk⟩ : ∃ k : Nat, (min (max dirs 0) (m.pend.length : Int)).toNat = k := ⟨_, rfl⟩
 have hk1 : (k : Int) = min (max dirs 0) (m.pend.length : Int) := by omega
 have HKP := hid (Ze3 (k := k) w h (by omega) hF.pend hF.kept)
 rw [hk1] at HKP
 obtain ⟨PA, pc, hPA, _⟩ := Zq h.rest.pend
 have c5 : w.cell? ⟨d, 5, none⟩ = some (.slice PA m.pend.length pc) := by rw [← hPA]; exact h.cell 5
 have HK := hid (And.intro hk hF)
 have HI := hid (And.intro hI (And.intro hl hoff))
 have HLT := hid (fun k hk => DkAt.lt h (k := k) hk)
 clear hk hk1 hF hI hl hoff h hPA
 generalize hN : m.pend.length = N at c5 HKP
 have HN := hid hN
 clear hN
 go_enter Tryz.func29, Tryz.ntmps29
 go_wp2_with (fail)
 refine HKP.out.mono ?_
 rintro e w1 ⟨rfl, own1, G1, h1, s1, o1⟩
 have c4 : w1.cell? ⟨d, 4, none⟩ = some (.map (some G1.kb)) := h1.cell 4
 have HCL := hid (AnyW.maps_Clone_owns cloneDk 9 (ptrR m.made G1.loc) G1.kb _ _ w1 h1.rest.kept)
 have H1 := hid h1
 have S1 := hid (And.intro s1 o1)
 clear h1 s1 o1 HKP c5
 go_wp2_with (fail)
 refine HCL.out.mono ?_
 rintro e w2 ⟨rfl, hm2, _, hb2⟩
 have HM2 := hid hm2
 have hg2 : Grows w1 w2 := hb2
 have HB2 := hid hg2
 have c3 : w2.cell? ⟨d, 3, none⟩ = some (.map (some G1.nb)) := hg2.cellq H1.out.top
 have c2 : w2.cell? ⟨d, 2, none⟩ = some (.int .i64 m.used) := hg2.cellq H1.out.top
 have f3 := (hg2.whole H1.out.top).free 3
 have f2 := (hg2.whole H1.out.top).free 2
 obtain ⟨nb, hnb⟩ : ∃ nb, w1.heap.size = nb := ⟨_, rfl⟩
 have hlt1 : ∀ k, k = d ∨ own1 k → k < nb := fun k hk => hnb ▸ H1.out.lt hk
 rw [hnb] at hm2
 have hnd : nb ≠ d := fun e => by have := hlt1 d (.inl rfl); omega
 have hno : ¬ own1 nb := fun e => by have := hlt1 nb (.inr e); omega
 have HNB := hid (And.intro hnb (And.intro hnd hno))
 -- the world behind the first two stores
 have D3 : DkAt ((w2.setCell ⟨d, 3, none⟩ (.map (some nb))).setCell ⟨d, 2, none⟩ (.int .i64 0)) d (fun k => own1 k ∨ k = nb) { G1 with nb := nb } { m.keep k with names := (m.keep k).kept, used := 0 } := by
  have h2 := H1.out.grow hg2
  have hother : ∀ x, x ≠ d → ((w2.setCell ⟨d, 3, none⟩ (.map (some nb))).setCell ⟨d, 2, none⟩ (.int .i64 0)).heap[x]? = w2.heap[x]? := fun x hx => by
   rw [Below.heap_setCell _ _ _ _ hx, Below.heap_setCell _ _ _ _ hx]
  have hsz : w2.heap.size ≤ ((w2.setCell ⟨d, 3, none⟩ (.map (some nb))).setCell ⟨d, 2, none⟩ (.int .i64 0)).heap.size := by simp [World.setCell]
  have r1 := h2.rest.renamed (w' := (w2.setCell ⟨d, 3, none⟩ (.map (some nb))).setCell ⟨d, 2, none⟩ (.int .i64 0)) (l := (m.keep k).kept) (Yn hm2 (hother nb hnd)) hno (fun x hx => hother x fun e => h2.free (e ▸ hx)) hsz
  refine ⟨r1.like rfl rfl rfl rfl rfl, (h2.top.put 3 (.map (some nb))).put 2 (.int .i64 0), ?_⟩
  rintro (e | e)
  ·exact h2.free e
  ·exact hnd e.symm
 have s3 : Zc (fun k => k = d ∨ own k) w ((w2.setCell ⟨d, 3, none⟩ (.map (some nb))).setCell ⟨d, 2, none⟩ (.int .i64 0)) := ((S1.out.1.trans (Zc.grows hg2)).setCell (p := ⟨d, 3, none⟩) (.inl rfl) _).setCell (p := ⟨d, 2, none⟩) (.inl rfl) _
 have cd : ((w2.setCell ⟨d, 3, none⟩ (.map (some nb))).setCell ⟨d, 2, none⟩ (.int .i64 0)).cell? ⟨d, 3, none⟩ = some (.map (some nb)) := D3.cell 3
 have D3H := hid D3
 have S3 := hid s3
 have HM3 := hid D3.rest.names
 clear hm2 hb2 HCL c4 hg2 hlt1 hnd hno D3 s3
 subst hnb
 go_wp2_with (first
  | (at_range; refine wpList_range_own _ rfl _ 55 rfl 9 111 lawStr Tryz.underlying55 _ w1.heap.size _ _ rfl HM3.out ?_; intro w4 hrg hg4 hs4; have HRG := hid hrg; have HG4 := hid hg4; clear hrg hg4 hs4))
 go_frame
 generalize hw3 : (w2.setCell ⟨d, 3, none⟩ (.map (some w1.heap.size))).setCell ⟨d, 2, none⟩ (.int .i64 0) = w3 at *
 generalize hrr : w3.heap.size = r at *
 have HR := hid (And.intro hw3 hrr)
 clear hw3 hrr cd c3 c2 f3 f2
 have hro : r ≠ d ∧ ¬ (own1 r ∨ r = w1.heap.size) := by
  constructor
  ·intro e
   have := D3H.out.top.lt
   have := HR.out.2
   omega
  ·intro e
   have := D3H.out.rest.lt r e
   have := HR.out.2
   omega
 have HRO := hid (And.intro hro (by have := HR.out.2; have := S3.out.size; omega : w.heap.size ≤ r))
 clear hro
 have hnd : (((m.keep k).kept).map (·.1)).Nodup := (Zg7 HM3.out).imp fun {a b} h e => by
  subst e
  rw [WideAt.bytes_irrefl] at h
  cases h
 have HND := hid hnd
 clear hnd
 have hst := Zke m.files l (m.keep k).kept
 have D4 : DkAt w4 d (fun x => own1 x ∨ x = w1.heap.size) { G1 with nb := w1.heap.size } { m.keep k with names := (m.keep k).kept, files := Ye m.files (m.keep k).kept l (Maps.has (encD (H := Unit) (m.keep k).kept)), used := wrap64 (Yt m.files (m.keep k).kept l (Maps.has (encD (H := Unit) (m.keep k).kept))) } := by
  have := D3H.out.grow ((Below.refl _ w3).grown HG4.out (Nat.le_refl _) (fun g e => by cases e))
  rw [hst.1, hst.2, show wrap64 0 = 0 from IntWalk.wrap64_in 0 (by omega)]
  exact this
 have S4 := hid (S3.out.grown (w' := w4) HG4.out (fun g e => by cases e))
 have HD4 := hid D4
 clear D4 hst
 go_loopw [7] (fun _ wr => ∃ (lf : Lit → Bool) (cnt : Nat) (G' : Geo), Hid (G'.nb = w1.heap.size) ∧ Hid (wr.ranges Tryz.prog 9 (ptrR m.made G'.loc) w1.heap.size r (m.keep k).kept.length (encD (m.keep k).kept) lf cnt) ∧ Hid (DkAt wr d (fun x => own1 x ∨ x = w1.heap.size) G' { m.keep k with names := (m.keep k).kept, files := Ye m.files (m.keep k).kept l lf, used := wrap64 (Yt m.files (m.keep k).kept l lf) }) ∧ Hid (Zc (fun x => x = d ∨ own x) w wr)) (fun _ wr => wr.rangeLeft w1.heap.size r)
 case atStart => exact ⟨_, _, { G1 with nb := w1.heap.size }, hid rfl, HRG, HD4, S4⟩
 case round =>
  obtain ⟨lf, cnt, G', HNB', HRr, HDr, HSr⟩ := hrel
  go_wp2_with (first
   | (at_next; refine wpList_next_ranges _ rfl _ rfl 9 lawStr (ptrR m.made G'.loc) encStr (fun v : Value => v) (fun key kl hk => by obtain ⟨x, hx, _⟩ := Maps.keyOf_str Tryz.underlying9 hk; exact ⟨x, hx⟩) (fun v y hv => ⟨v, rfl⟩) w1.heap.size r _ _ _ _ rfl HRr.out ?_ ?_))
  ·intro _ hl0
   have HL0 := hid hl0
   clear hl0
   have c7 : wr.cell? ⟨d, 7, none⟩ = some (.int .i64 m.fail) := HDr.out.cell 7
   have f7 := HDr.out.top.free 7
   have c8 : wr.cell? ⟨d, 8, none⟩ = some (.int .i64 m.cut) := HDr.out.cell 8
   have f8 := HDr.out.top.free 8
   have c9 : wr.cell? ⟨d, 9, none⟩ = some (.bool m.down) := HDr.out.cell 9
   have f9 := HDr.out.top.free 9
   go_wp2_with (fail)
   go_end0
   have h7 := HDr.out.set 7 (.int .i64 (-1)) (m' := { m.keep k with names := (m.keep k).kept, files := Ye m.files (m.keep k).kept l lf, used := wrap64 (Yt m.files (m.keep k).kept l lf), fail := -1 }) rfl rfl rfl rfl rfl rfl
   have h8 := h7.set 8 (.int .i64 (-1)) (m' := { m.keep k with names := (m.keep k).kept, files := Ye m.files (m.keep k).kept l lf, used := wrap64 (Yt m.files (m.keep k).kept l lf), fail := -1, cut := -1 }) rfl rfl rfl rfl rfl rfl
   have h9 := h8.set 9 (.bool false) (m' := { m.keep k with names := (m.keep k).kept, files := Ye m.files (m.keep k).kept l lf, used := wrap64 (Yt m.files (m.keep k).kept l lf), fail := -1, cut := -1, down := false }) rfl rfl rfl rfl rfl rfl
   have hend := Zoy m.files l (names := (m.keep k).kept) HL0.out
   rw [hend.1, hend.2] at h9
   have em : m.boot dirs l = { m.keep k with names := (m.keep k).kept, files := fun i => if (m.keep k).kept.any (fun p => p.2 == i) then (m.files i).lose (more l i) else m.files i, used := wrap64 (((m.keep k).kept.map fun p => ((((fun i => if (m.keep k).kept.any (fun p => p.2 == i) then (m.files i).lose (more l i) else m.files i) p.2 : Fl).bytes.length : Nat) : Int)).sum), fail := -1, cut := -1, down := false } := by
    unfold Dk.boot
    rw [HK.out.1]
   refine ⟨rfl, _, _, em ▸ h9, ((HSr.out.setCell (p := ⟨d, 7, none⟩) (.inl rfl) _).setCell (p := ⟨d, 8, none⟩) (.inl rfl) _).setCell (p := ⟨d, 9, none⟩) (.inl rfl) _, ?_⟩
   rintro x (hx | rfl)
   ·exact S1.out.2 x hx
   ·exact .inr S1.out.1.size
  ·intro x c' kl yd yp w5 cnt5 hkey hlk hv hat hrg5 hlt5 hg5 hs5 hen
   obtain ⟨x', ex, rfl, hxl⟩ := Maps.keyOf_str Tryz.underlying9 hkey
   obtain rfl : x = x' := encStr_inj ex
   obtain ⟨f, hf, hfm, rfl⟩ := Zkc hv hat
   have HF := hid (And.intro hf (And.intro hfm hlk))
   have HR5 := hid (And.intro hrg5 (And.intro hlt5 hg5))
   have h5 : DkAt w5 d (fun x => own1 x ∨ x = w1.heap.size) G' { m.keep k with names := (m.keep k).kept, files := Ye m.files (m.keep k).kept l lf, used := wrap64 (Yt m.files (m.keep k).kept l lf) } :=
    HDr.out.spare (oth := fun y => y = r) ((Zc.refl _ wr).grown hg5 (fun g e => by injection e with e; exact e.symm)) (by
     rintro y (rfl | hy) e
     ·exact HRO.out.1.1 e.symm
     ·exact HRO.out.1.2 (e ▸ hy))
   have s5 : Zc (fun y => y = d ∨ own y) w w5 := by
    refine ((HSr.out.wider (own' := fun y => (y = d ∨ own y) ∨ y = r) fun y _ h => .inl h).grown hg5 (fun g e => by injection e with e; exact .inr e.symm)).wider fun y hy h => h.elim id fun e => ?_
    have := HRO.out.2
    omega
   have hi5 : Ints w5 A n c l := HI.out.1.off s5.size fun ad e hne hlt => s5.same _ hlt (fun h => h.elim (HI.out.2.2 ad e hne).1 (HI.out.2.2 ad e hne).2)
   have hfit := Zow (ns := (m.keep k).kept) (l := l) (lf := lf) (HK.out.2.bytes f hfm)
   obtain ⟨A0, c0, hA0, hbare⟩ := Zq (h5.rest.rows f hfm)
   have hcc := h5.rest.cells f hfm
   rw [hA0] at hcc
   have hcap : (Ye m.files (m.keep k).kept l lf f).bytes.length ≤ c0 := by
    have := h5.rest.rows f hfm
    rw [hA0] at this
    exact Zmd this
   have HLO := hid (Zig hcc hfit.2 hcap hbare hfit.1 hi5 (by have := HK.out.2.made; omega) HI.out.2.1)
   have H5 := hid (And.intro h5 (And.intro s5 (And.intro hfit hA0)))
   clear hkey hlk hv hat hrg5 hlt5 hg5 hs5 hxl hf hfm h5 s5 hi5 hfit hA0 hbare hcc hcap ex
   generalize hlo : G'.loc f = lo at hen HLO
   have HLC := hid hlo
   clear hlo
   go_wp2_with (fail)
   refine HLO.out.mono ?_
   rintro e w6 ⟨rfl, hw6, s6⟩
   obtain ⟨n1, hn1⟩ : ∃ n1, left l f (Ye m.files (m.keep k).kept l lf f).bytes.length (Ye m.files (m.keep k).kept l lf f).kept = n1 := ⟨_, rfl⟩
   have h6 := H5.out.1.losing HF.out.2.1 l H5.out.2.2.2 H5.out.2.2.1.2 (HLC.out ▸ hw6) (HLC.out ▸ s6)
   have hw6' : Whole w6 lo 114 #[.int .i64 (f : Int), .slice A0 n1 c0, .int .i64 (n1 : Int)] := hn1 ▸ hw6
   have hne1 : w1.heap.size ≠ lo := fun e => by
    obtain ⟨es, cl, h2⟩ := Z7 HR5.out.1.owns
    have h3 := H5.out.1.rest.cells f HF.out.2.1
    unfold Whole at h3
    rw [HLC.out, ← e, h2] at h3
    cases h3
   have hne2 : r ≠ lo := fun e => HRO.out.1.2 (e ▸ HLC.out ▸ H5.out.1.rest.ol f HF.out.2.1)
   have r6 := J6 HR5.out.1 (s6.same _ (World.ownsMap.lt HR5.out.1.owns) hne1) (s6.same _ HR5.out.1.lt hne2)
   have t6 : Zc (fun y => y = d ∨ own y) w w6 := by
    refine ((H5.out.2.1.wider (own' := fun y => (y = d ∨ own y) ∨ w.heap.size ≤ y) fun y _ h => .inl h).trans (s6.wider fun y _ e => ?_)).wider fun y hy h => h.elim id fun e => by omega
    have := H5.out.1.rest.ol f HF.out.2.1
    rw [HLC.out] at this
    rw [e]
    rcases this with e | e
    ·exact (S1.out.2 _ e).imp .inr id
    ·exact .inr (e ▸ S1.out.1.size)
   have HC6 := hid (show ∀ w', Grows w6 w' → w'.cell? ⟨d, 2, none⟩ = some (.int .i64 (wrap64 (Yt m.files (m.keep k).kept l lf))) ∧ w'.cell? ⟨lo, 1, none⟩ = some (.slice A0 n1 c0) from fun w' hg => ⟨hg.cellq h6.top, hg.cellq hw6'⟩)
   have H6 := hid (And.intro h6 (And.intro r6 (And.intro t6 hn1)))
   clear h6 r6 t6 hn1 hw6 hw6' s6 hne1 hne2 HLO
   generalize hus : wrap64 (Yt m.files (m.keep k).kept l lf) = us at HC6
   have HUS := hid hus
   clear hus
   go_wp2_with (fail)
   refine Zh (E := Grows) 12 [Za (.pointer (some ⟨d, 0, none⟩)), Za (.pointer (some ⟨d, 0, none⟩)), Za (.pointer (some ⟨d, 2, none⟩)), Za (.int .i64 us), Za (.pointer (some ⟨lo, 0, none⟩)), Za (.pointer (some ⟨lo, 0, none⟩)), Za (.pointer (some ⟨lo, 1, none⟩)), Za (.slice A0 n1 c0), Za (.int .i64 (n1 : Int)), Za (.int .i64 (wrap64 (us + n1))), Za (.pointer (some ⟨d, 0, none⟩)), Za (.pointer (some ⟨d, 2, none⟩))] mixed (by kernel_rfl) (fun _ _ _ => Grows.trans) (Ze _) ?_
   simp only [List.take_succ_cons, List.take_zero, List.drop_succ_cons, List.drop_zero]
   iterate 9
    refine f_val _ (by rfl) ?_ ?_
    ·intro w' hC; obtain ⟨z0, z1⟩ := HC6.out w' hC; clear hC; go_simp
    simp only [Pu]
   refine f_val _ (by rfl) ?_ ?_
   ·intro w' hC; clear hC; (go_simp; unfold wrap64; rw [IntKind.wrap_i64])
   simp only [Pu]
   iterate 2
    refine f_val _ (by rfl) ?_ ?_
    ·intro w' hC; obtain ⟨z0, z1⟩ := HC6.out w' hC; clear hC; go_simp
    simp only [Pu]
   refine Zv ?_
   intro w7 hC hks
   have HCw7 := hid hC
   clear hC hks
   have c2 := (HC6.out w7 HCw7.out).1
   have h7 := H6.out.1.grow HCw7.out
   have f2 := h7.top.free 2
   have H7 := hid h7
   clear h7
   go_wp2_with (fail)
   go_roundw
   case rel =>
    have hls := Zmf m.files l HND.out HF.out.1 HF.out.2.2
    have e1 : ((Ye m.files (m.keep k).kept l lf f).lose (more l f)).bytes.length = n1 := by
     have hle := Zdp l f H5.out.2.2.1.2
     have := H6.out.2.2.2
     unfold left at this hle
     unfold Fl.lose
     dsimp only
     rw [List.length_take]
     omega
    have e2 : wrap64 (us + n1) = wrap64 (Yt m.files (m.keep k).kept l (fun z => lf z && !z.sameKey (.string x))) := by
     rw [hls.2.1, ← HUS.out, ← hls.2.2, e1]
     unfold wrap64
     omega
    have h8 := H7.out.set 2 (.int .i64 (wrap64 (us + n1))) (m' := { m.keep k with names := (m.keep k).kept, files := Ye m.files (m.keep k).kept l (fun z => lf z && !z.sameKey (.string x)), used := wrap64 (us + n1) }) rfl rfl rfl rfl rfl hls.1
    rw [e2] at h8 ⊢
    refine ⟨_, cnt5, _, hid ?_, hid ?_, hid h8, hid ?_⟩
    ·exact HNB'.out
    ·have hn : w1.heap.size ≠ d := HNB.out.2.1
     exact J6 (J6 H6.out.2.1 (HCw7.out.block _ (World.ownsMap.lt H6.out.2.1.owns)) (HCw7.out.block _ H6.out.2.1.lt)) (Below.heap_setCell _ _ _ _ hn) (Below.heap_setCell _ _ _ _ HRO.out.1.1)
    ·exact (H6.out.2.2.1.trans (Zc.grows HCw7.out)).setCell (p := ⟨d, 2, none⟩) (.inl rfl) _
   case measure =>
    have hn : w1.heap.size ≠ d := HNB.out.2.1
    have r8 := J6 (J6 H6.out.2.1 (HCw7.out.block _ (World.ownsMap.lt H6.out.2.1.owns)) (HCw7.out.block _ H6.out.2.1.lt)) (w' := w7.setCell ⟨d, 2, none⟩ (.int .i64 (wrap64 (us + n1)))) (Below.heap_setCell _ _ _ _ hn) (Below.heap_setCell _ _ _ _ HRO.out.1.1)
    rw [r8.left_eq, HRr.out.left_eq]
    exact HR5.out.2.1
end
end Go.Proofs.YtlldcogkcjnejaaGreat
namespace Go.Proofs.YtlldcogkcjnejaaGreat
open Go.RowKit Go.Maps Go.WideMaps
structure DkOk (K : Nat) (m : Dk) : Prop where
 cut : -1 ≤ m.cut ∧ m.cut ≤ 9223372036854775807
 fail : -1 ≤ m.fail ∧ m.fail ≤ 9223372036854775807
 made : m.made ≤ K
 pend : m.kept.length + m.pend.length ≤ K
 names : m.names.length ≤ K
 bytes : ∀ i, i < m.made → (m.files i).bytes.length ≤ K ∧ (m.files i).kept ≤ (m.files i).bytes.length
section
variable {K K' : Nat} {m : Dk}
theorem DkOk.fit (h : DkOk K m) (hK : K ≤ 1000000000) : DkFit m :=
 ⟨h.cut, h.fail, Nat.le_trans h.made hK, by have := h.pend; omega, Nat.le_trans h.names hK, by have := h.pend; omega, fun i hi => ⟨Nat.le_trans (h.bytes i hi).1 hK, (h.bytes i hi).2⟩⟩
theorem DkOk.mono (h : DkOk K m) (hK : K ≤ K') : DkOk K' m :=
 ⟨h.cut, h.fail, Nat.le_trans h.made hK, Nat.le_trans h.pend hK, Nat.le_trans h.names hK, fun i hi => ⟨Nat.le_trans (h.bytes i hi).1 hK, (h.bytes i hi).2⟩⟩
theorem DkOk.new (x : Int) : DkOk 0 (Dk.new x) :=
 ⟨by simp [Dk.new], by simp [Dk.new], by simp [Dk.new], by simp [Dk.new], by simp [Dk.new], fun i hi => absurd hi (Nat.not_lt_zero _)⟩
theorem DkOk.nums (h : DkOk K m) {m' : Dk} (hc : -1 ≤ m'.cut ∧ m'.cut ≤ 9223372036854775807) (hf : -1 ≤ m'.fail ∧ m'.fail ≤ 9223372036854775807) (h1 : m'.made = m.made) (h2 : m'.names = m.names) (h3 : m'.kept = m.kept) (h4 : m'.pend = m.pend) (h5 : m'.files = m.files) : DkOk K m' :=
 ⟨hc, hf, h1 ▸ h.made, by rw [h3, h4]; exact h.pend, h2 ▸ h.names, fun i hi => by rw [h5]; exact h.bytes i (h1 ▸ hi)⟩
theorem DkOk.fails (h : DkOk K m) (x : Int) (hx : x ≤ 9223372036854775807) : DkOk K (m.setFail x) :=
 h.nums h.cut (by have := h.fail; unfold Dk.setFail; dsimp only; split <;> omega) rfl rfl rfl rfl rfl
theorem DkOk.cuts (h : DkOk K m) (x : Int) (hx : x ≤ 9223372036854775807) : DkOk K (m.setCut x) :=
 h.nums (by have := h.cut; unfold Dk.setCut; dsimp only; split <;> omega) h.fail rfl rfl rfl rfl rfl
theorem Zg6 {x : Int} (h : -1 ≤ x ∧ x ≤ 9223372036854775807) : -1 ≤ sooner x ∧ sooner x ≤ 9223372036854775807 := by unfold sooner; split <;> omega
theorem DkOk.soon (h : DkOk K m) : DkOk K m.sooner := h.nums (Zg6 h.cut) (Zg6 h.fail) rfl rfl rfl rfl rfl
theorem DkOk.thing (h : DkOk K m) (hK : K ≤ K') {does : Dk → Dk} (hd : DkOk K m.sooner → DkOk K' (does m.sooner)) : DkOk K' (m.thing does).1 := by
 have hs := h.soon
 unfold Dk.thing
 split
 ·exact h.mono hK
 ·split
  ·exact (hs.mono hK).nums (by simp) hs.fail rfl rfl rfl rfl rfl
  ·split
   ·exact (hs.mono hK).nums hs.cut (by simp) rfl rfl rfl rfl rfl
   ·have h2 := hd hs
    exact h2.nums h2.cut h2.fail rfl rfl rfl rfl rfl
theorem DkOk.change (h : DkOk K m) (c : Ch) : DkOk (K + 1) (m.change c) :=
 ⟨h.cut, h.fail, Nat.le_succ_of_le h.made, by show m.kept.length + (m.pend ++ [c]).length ≤ _; rw [List.length_append]; have := h.pend; simp only [List.length_singleton]; omega,
  by show (c.on m.names).length ≤ _; have := Zjh c m.names; have := h.names; omega, fun i hi => ⟨Nat.le_succ_of_le (h.bytes i hi).1, (h.bytes i hi).2⟩⟩
theorem DkOk.create (h : DkOk K m) (n : Nm) : DkOk (K + 1) (m.create n).1 := by
 unfold Dk.create
 split
 ·exact h.mono (Nat.le_succ _)
 ·split
  ·exact h.mono (Nat.le_succ _)
  ·split
   ·exact h.mono (Nat.le_succ _)
   ·split
    ·exact h.mono (Nat.le_succ _)
    ·refine h.thing (Nat.le_succ _) fun hs => ?_
     have h1 := hs.change (.made n m.sooner.made)
     refine ⟨h1.cut, h1.fail, Nat.succ_le_succ hs.made, h1.pend, h1.names, fun i hi => ?_⟩
     show (if i = m.sooner.made then (⟨[], 0⟩ : Fl) else m.sooner.files i).bytes.length ≤ _ ∧ (if i = m.sooner.made then (⟨[], 0⟩ : Fl) else m.sooner.files i).kept ≤ (if i = m.sooner.made then (⟨[], 0⟩ : Fl) else m.sooner.files i).bytes.length
     split
     ·exact ⟨Nat.zero_le _, Nat.le_refl _⟩
     ·have : i < m.sooner.made + 1 := hi
      exact h1.bytes i (show i < m.sooner.made by omega)
theorem DkOk.append (h : DkOk K m) (n : Nm) (b : List UInt8) : DkOk (K + b.length) (m.append n b).1 := by
 unfold Dk.append
 split
 ·exact h.mono (Nat.le_add_right _ _)
 ·split
  ·exact h.mono (Nat.le_add_right _ _)
  ·rename_i f hf
   split
   ·exact h.mono (Nat.le_add_right _ _)
   ·refine h.thing (Nat.le_add_right _ _) fun hs => ?_
    have h1 := hs.mono (Nat.le_add_right K b.length)
    refine ⟨h1.cut, h1.fail, h1.made, h1.pend, h1.names, fun i hi => ?_⟩
    show (if i = f then (⟨(m.sooner.files f).bytes ++ b, (m.sooner.files f).kept⟩ : Fl) else m.sooner.files i).bytes.length ≤ _ ∧ (if i = f then (⟨(m.sooner.files f).bytes ++ b, (m.sooner.files f).kept⟩ : Fl) else m.sooner.files i).kept ≤ (if i = f then (⟨(m.sooner.files f).bytes ++ b, (m.sooner.files f).kept⟩ : Fl) else m.sooner.files i).bytes.length
    by_cases e : i = f
    ·subst e
     rw [if_pos rfl]
     have := hs.bytes i hi
     dsimp only
     rw [List.length_append]
     omega
    ·rw [if_neg e]
     exact h1.bytes i hi
theorem DkOk.sync (h : DkOk K m) (n : Nm) : DkOk K (m.sync n).1 := by
 unfold Dk.sync
 split
 ·exact h
 ·split
  ·exact h
  ·rename_i f hf
   refine h.thing (Nat.le_refl _) fun hs => ⟨hs.cut, hs.fail, hs.made, hs.pend, hs.names, fun i hi => ?_⟩
   show (if i = f then (⟨(m.sooner.files f).bytes, (m.sooner.files f).bytes.length⟩ : Fl) else m.sooner.files i).bytes.length ≤ _ ∧ (if i = f then (⟨(m.sooner.files f).bytes, (m.sooner.files f).bytes.length⟩ : Fl) else m.sooner.files i).kept ≤ (if i = f then (⟨(m.sooner.files f).bytes, (m.sooner.files f).bytes.length⟩ : Fl) else m.sooner.files i).bytes.length
   by_cases e : i = f
   ·subst e
    rw [if_pos rfl]
    exact ⟨(hs.bytes i hi).1, Nat.le_refl _⟩
   ·rw [if_neg e]
    exact hs.bytes i hi
theorem DkOk.remove (h : DkOk K m) (n : Nm) : DkOk (K + 1) (m.remove n).1 := by
 unfold Dk.remove
 split
 ·exact h.mono (Nat.le_succ _)
 ·split
  ·exact h.mono (Nat.le_succ _)
  ·rename_i f hf
   refine h.thing (Nat.le_succ _) fun hs => ?_
   exact (hs.nums (m' := { m.sooner with used := wrap64 (m.sooner.used - (m.sooner.files f).bytes.length) }) hs.cut hs.fail rfl rfl rfl rfl rfl).change _
theorem DkOk.keep (h : DkOk K m) (k : Nat) : DkOk K (m.keep k) :=
 ⟨h.cut, h.fail, h.made, by
  show (redo (m.pend.take k) m.kept).length + 0 ≤ K
  have := h.pend
  exact redo_short _ _ (by rw [List.length_take]; omega), h.names, h.bytes⟩
theorem DkOk.syncDir (h : DkOk K m) : DkOk K m.syncDir.1 := h.thing (Nat.le_refl _) fun hs => hs.keep _
theorem DkOk.boot (h : DkOk K m) (dirs : Int) (l : List Int) : DkOk K (m.boot dirs l) := by
 have hk := h.keep (min (max dirs 0) (m.pend.length : Int)).toNat
 refine ⟨by simp [Dk.boot], by simp [Dk.boot], h.made, hk.pend, ?_, fun i hi => ?_⟩
 ·have := hk.pend
  show (m.keep (min (max dirs 0) (m.pend.length : Int)).toNat).kept.length ≤ K
  omega
 ·have h1 := h.bytes i hi
  show (if _ then _ else _ : Fl).bytes.length ≤ K ∧ (if _ then _ else _ : Fl).kept ≤ (if _ then _ else _ : Fl).bytes.length
  split
  ·have := Zdp l i h1.2
   unfold left at this
   unfold Fl.lose
   dsimp only
   rw [List.length_take]
   omega
  ·exact h1
end
end Go.Proofs.YtlldcogkcjnejaaGreat
namespace Go.Proofs.YtlldcogkcjnejaaGreat
open Go.RowKit
end Go.Proofs.YtlldcogkcjnejaaGreat
namespace Go.Proofs.YtlldcogkcjnejaaGreat
open Go.RowKit Go.Maps Go.WideMaps
def DkIn (B : Nat) (w0 w : World) (d : Nat) (out : Nat → Prop) (m : Dk) : Prop :=
 ∃ own G, DkAt w d own G m ∧ B ≤ d ∧ (∀ k, own k → B ≤ k) ∧ Below B w0 w ∧ B ≤ w.heap.size ∧ ∀ k, out k → k < w.heap.size ∧ k ≠ d ∧ ¬ own k
abbrev Stays (B : Nat) (out : Nat → Prop) (w w' : World) : Prop := Zc (fun k => B ≤ k ∧ ¬ out k) w w'
section
variable {B d K : Nat} {w0 w w' : World} {out : Nat → Prop} {m : Dk}
theorem Stays.grows (h : Grows w w') : Stays B out w w' := Zc.grows h
theorem DkIn.size (h : DkIn B w0 w d out m) : B ≤ w.heap.size := by obtain ⟨_, _, _, _, _, _, h, _⟩ := h; exact h
theorem DkIn.low (h : DkIn B w0 w d out m) : Below B w0 w := by obtain ⟨_, _, _, _, _, h, _⟩ := h; exact h
theorem DkIn.grow (h : DkIn B w0 w d out m) (hg : Grows w w') : DkIn B w0 w' d out m := by
 obtain ⟨own, G, h1, h2, h3, h4, h5, h6⟩ := h
 exact ⟨own, G, h1.grow hg, h2, h3, h4.trans (Below.mono hg h5), Nat.le_trans h5 hg.size, fun k hk => ⟨Nat.lt_of_lt_of_le (h6 k hk).1 hg.size, (h6 k hk).2⟩⟩
theorem DkIn.more (h : DkIn B w0 w d out m) (hg : Grows w w') : DkIn B w0 w' d (fun k => out k ∨ (w.heap.size ≤ k ∧ k < w'.heap.size)) m := by
 obtain ⟨own, G, h1, h2, h3, h4, h5, h6⟩ := h
 refine ⟨own, G, h1.grow hg, h2, h3, h4.trans (Below.mono hg h5), Nat.le_trans h5 hg.size, ?_⟩
 rintro k (hk | hk)
 ·exact ⟨Nat.lt_of_lt_of_le (h6 k hk).1 hg.size, (h6 k hk).2⟩
 ·exact ⟨hk.2, fun e => by have := h1.top.lt; omega, fun e => by have := h1.rest.lt k e; omega⟩
theorem DkIn.less {out' : Nat → Prop} (h : DkIn B w0 w d out m) (ho : ∀ k, out' k → out k) : DkIn B w0 w d out' m := by
 obtain ⟨own, G, h1, h2, h3, h4, h5, h6⟩ := h
 exact ⟨own, G, h1, h2, h3, h4, h5, fun k hk => h6 k (ho k hk)⟩
theorem DkIn.new {x : Int} (h : DkNew w d w' (Dk.new x)) (hB : B ≤ w.heap.size) (hb : Below B w0 w) (hout : ∀ k, out k → k < w.heap.size) : DkIn B w0 w' d out (Dk.new x) := by
 obtain ⟨own, G, h1, h2, h3, h4⟩ := h
 exact ⟨own, G, h1, Nat.le_trans hB h2, fun k hk => Nat.le_trans hB (h3 k hk), hb.trans (Below.mono h4 hB), Nat.le_trans hB h4.size, fun k hk => ⟨Nat.lt_of_lt_of_le (hout k hk) h4.size, fun e => by have := hout k hk; omega, fun e => by have := hout k hk; have := h3 k e; omega⟩⟩
theorem DkIn.to {f : FuncId} {args : Array Value} {v : Ending} {m' : Dk} (h : DkIn B w0 w d out m) (hc : ∀ own G, DkAt w d own G m → (∀ k, own k → B ≤ k) → (∀ k, out k → k ≠ d ∧ ¬ own k) → Calls Tryz.prog f args w fun e w' => e = v ∧ DkTo w d own w' m') :
 Calls Tryz.prog f args w fun e w' => e = v ∧ DkIn B w0 w' d out m' ∧ Stays B out w w' := by
 obtain ⟨own, G, h1, h2, h3, h4, h5, h6⟩ := h
 refine (hc own G h1 h3 fun k hk => (h6 k hk).2).mono ?_
 rintro e w' ⟨rfl, own', G', k1, k2, k3⟩
 have k2' : Stays B out w w' := k2.wider fun k _ hk => ⟨hk.elim (fun e => e ▸ h2) (h3 k), fun ho => hk.elim (h6 k ho).2.1 (h6 k ho).2.2⟩
 refine ⟨rfl, ⟨own', G', k1, h2, fun k hk => (k3 k hk).elim (h3 k) (Nat.le_trans h5), h4.trans (k2'.below h5 fun k hk e => by have := e.1; omega), Nat.le_trans h5 k2'.size, fun k hk => ⟨Nat.lt_of_lt_of_le (h6 k hk).1 k2.size, (h6 k hk).2.1, fun e => ?_⟩⟩, k2'⟩
 rcases k3 k e with e | e
 ·exact (h6 k hk).2.2 e
 ·have := (h6 k hk).1; omega
theorem DkIn.did {f : FuncId} {args : Array Value} {r : Dk × Int} (h : DkIn B w0 w d out m) (hc : ∀ own G, DkAt w d own G m → (∀ k, own k → B ≤ k) → (∀ k, out k → k ≠ d ∧ ¬ own k) → Calls Tryz.prog f args w fun e w' => Did w d own r e w') {v : Int} {m' : Dk} (h1 : r.2 = v) (h2 : r.1 = m') :
 Calls Tryz.prog f args w fun e w' => e = .returned (.int .i64 v) ∧ DkIn B w0 w' d out m' ∧ Stays B out w w' := by
 subst h1 h2
 exact h.to hc
/-! The calls. -/
theorem Zmb (n : Nm) (h : DkIn B w0 w d out m) (ok : DkOk K m) (hK : K ≤ 1000000000) (hn : n.length ≤ 1000000) {v : Int} {m' : Dk} (h1 : (m.create n).2 = v) (h2 : (m.create n).1 = m') : Calls Tryz.prog 42 #[.pointer (some ⟨d, 0, none⟩), .string ⟨n.toArray⟩] w fun e w' => e = .returned (.int .i64 v) ∧ DkIn B w0 w' d out m' ∧ Stays B out w w' :=
 h.did (fun own G ha _ _ => Zki w n ha (ok.fit hK) hn) h1 h2
theorem Zq2 (n : Nm) (h : DkIn B w0 w d out m) (ok : DkOk K m) (hK : K ≤ 1000000000) (hn : n.length ≤ 1000000) {v : Int} {m' : Dk} (h1 : (m.sync n).2 = v) (h2 : (m.sync n).1 = m') : Calls Tryz.prog 36 #[.pointer (some ⟨d, 0, none⟩), .string ⟨n.toArray⟩] w fun e w' => e = .returned (.int .i64 v) ∧ DkIn B w0 w' d out m' ∧ Stays B out w w' :=
 h.did (fun own G ha _ _ => Zo0 w n ha (ok.fit hK) (by unfold maxLen; omega)) h1 h2
theorem Zmc (n : Nm) (h : DkIn B w0 w d out m) (ok : DkOk K m) (hK : K ≤ 1000000000) (hn : n.length ≤ 1000000) {v : Int} {m' : Dk} (h1 : (m.remove n).2 = v) (h2 : (m.remove n).1 = m') : Calls Tryz.prog 46 #[.pointer (some ⟨d, 0, none⟩), .string ⟨n.toArray⟩] w fun e w' => e = .returned (.int .i64 v) ∧ DkIn B w0 w' d out m' ∧ Stays B out w w' :=
 h.did (fun own G ha _ _ => Zkf w n ha (ok.fit hK) hn) h1 h2
theorem Zka (h : DkIn B w0 w d out m) (ok : DkOk K m) (hK : K ≤ 1000000000) {v : Int} {m' : Dk} (h1 : m.syncDir.2 = v) (h2 : m.syncDir.1 = m') : Calls Tryz.prog 34 #[.pointer (some ⟨d, 0, none⟩)] w fun e w' => e = .returned (.int .i64 v) ∧ DkIn B w0 w' d out m' ∧ Stays B out w w' :=
 h.did (fun own G ha _ _ => Zih w ha (ok.fit hK)) h1 h2
theorem Zcb (n : Nm) {A : Option Addr} {nb cb : Nat} {bs : List UInt8} (h : DkIn B w0 w d out m) (ok : DkOk K m) (hK : K ≤ 1000000000) (hn : n.length ≤ 1000000) (hs : Sl w A nb cb bs) (hoff : ∀ ad, A = some ad → bs ≠ [] → ad.block < B ∨ out ad.block) (hnb : nb ≤ 1000000000) {v : Int} {m' : Dk} (h1 : (m.append n bs).2 = v) (h2 : (m.append n bs).1 = m') :
 Calls Tryz.prog 43 #[.pointer (some ⟨d, 0, none⟩), .string ⟨n.toArray⟩, .slice A nb cb] w fun e w' => e = .returned (.int .i64 v) ∧ DkIn B w0 w' d out m' ∧ Stays B out w w' := by
 have hd : B ≤ d := by obtain ⟨_, _, _, h, _⟩ := h; exact h
 exact h.did (fun own G ha hb ho => Zkg w n ha (ok.fit hK) (by unfold maxLen; omega) hs (fun ad e hne => (hoff ad e hne).elim (fun hlt => ⟨by omega, fun e => by have := hb _ e; omega⟩) (ho _)) hnb) h1 h2
theorem Zq3 (x : Int) (h : DkIn B w0 w d out m) : Calls Tryz.prog 25 #[.pointer (some ⟨d, 0, none⟩), .int .i64 x] w fun e w' => e = .returned (.tuple #[]) ∧ DkIn B w0 w' d out (m.setFail x) ∧ Stays B out w w' :=
 h.to fun own G ha _ _ => (Zo7 w x ha).mono fun e w' ⟨he, h1, h2⟩ => ⟨he, DkTo.same h1 h2⟩
theorem Zr0 (x : Int) (h : DkIn B w0 w d out m) : Calls Tryz.prog 27 #[.pointer (some ⟨d, 0, none⟩), .int .i64 x] w fun e w' => e = .returned (.tuple #[]) ∧ DkIn B w0 w' d out (m.setCut x) ∧ Stays B out w w' :=
 h.to fun own G ha _ _ => (Zrb w x ha).mono fun e w' ⟨he, h1, h2⟩ => ⟨he, DkTo.same h1 h2⟩
theorem Zq4 (dirs : Int) {l : List Int} {A : Option Addr} {n c : Nat} (h : DkIn B w0 w d out m) (ok : DkOk K m) (hK : K ≤ 1000000000) (hI : Ints w A n c l) (hl : ∀ x ∈ l, -9223372036854775808 ≤ x ∧ x ≤ 9223372036854775807) (hoff : ∀ ad, A = some ad → l ≠ [] → ad.block < B ∨ out ad.block) :
 Calls Tryz.prog 29 #[.pointer (some ⟨d, 0, none⟩), .int .i64 dirs, .slice A n c] w fun e w' => e = .returned (.tuple #[]) ∧ DkIn B w0 w' d out (m.boot dirs l) ∧ Stays B out w w' := by
 have hd : B ≤ d := by obtain ⟨_, _, _, h, _⟩ := h; exact h
 exact h.to fun own G ha hb ho => Zox w dirs ha (ok.fit hK) hI hl (fun ad e hne => (hoff ad e hne).elim (fun hlt => ⟨by omega, fun e => by have := hb _ e; omega⟩) (ho _))
theorem Zq5 (n : Nm) (x k : Int) (h : DkIn B w0 w d out m) (ok : DkOk K m) (hK : K ≤ 1000000000) (hn : n.length ≤ 1000000) (hx : -9223372036854775808 ≤ x ∧ x ≤ 9223372036854775807) (hk : -9223372036854775808 ≤ k ∧ k ≤ 9223372036854775807) {r : Option (List UInt8) × Int} (hr : m.read n x k = r) :
 Calls Tryz.prog 52 #[.pointer (some ⟨d, 0, none⟩), .string ⟨n.toArray⟩, .int .i64 x, .int .i64 k] w fun e w' => Ze2 w r e w' := by
 subst hr
 obtain ⟨own, G, h1, _⟩ := h
 exact Zoz w n x k h1 (ok.fit hK) (by unfold maxLen; omega) hx hk
theorem Zq6 (n : Nm) (h : DkIn B w0 w d out m) (hn : n.length ≤ 1000000) {v : Int} {b : Bool} (h1 : m.size n = (v, b)) : Calls Tryz.prog 82 #[.pointer (some ⟨d, 0, none⟩), .string ⟨n.toArray⟩] w fun e w' => e = .returned (.tuple #[.int .i64 v, .bool b]) ∧ w = w' := by
 obtain ⟨own, G, h2, _⟩ := h
 have := Zo4 w h2 (n := n) (by unfold maxLen; omega)
 rw [h1] at this
 exact this
theorem Zq7 (h : DkIn B w0 w d out m) : Calls Tryz.prog 13 #[.pointer (some ⟨d, 0, none⟩)] w fun e w' => e = .returned (.int .i64 m.done) ∧ w = w' := by
 obtain ⟨own, G, h2, _⟩ := h
 exact Zo5 w h2
theorem Zq8 (h : DkIn B w0 w d out m) : Calls Tryz.prog 11 #[.pointer (some ⟨d, 0, none⟩)] w fun e w' => e = .returned (.int .i64 m.used) ∧ w = w' := by
 obtain ⟨own, G, h2, _⟩ := h
 exact Zo6 w h2
end
end Go.Proofs.YtlldcogkcjnejaaGreat
namespace Go.Proofs.YtlldcogkcjnejaaGreat
open Go.RowKit Go.Maps Go.WideMaps
structure Well (m : Dk) : Prop where
 down : m.down = false
 cut : m.cut < 0
 fail : m.fail < 0
def Dk.bump (m : Dk) : Dk := { m with done := wrap64 (m.done + 1) }
section
variable {m : Dk}
end
end Go.Proofs.YtlldcogkcjnejaaGreat
namespace Go.Proofs.YtlldcogkcjnejaaGreat
open Go.RowKit
section
variable (m : Dk) (f : Nat) (b : List UInt8) (n to : Nm)
end
end Go.Proofs.YtlldcogkcjnejaaGreat
