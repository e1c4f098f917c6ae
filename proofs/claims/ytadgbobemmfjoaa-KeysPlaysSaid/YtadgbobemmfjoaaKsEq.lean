/-
  Two places, are they one?
-/
import Derived.Test.YtadgbobemmfjoaaKsMem
import Derived.Laws.Cover1
namespace Go.Proofs.Ytadgbobemmfjoaa
open Go.RowKit
set_option linter.unusedVariables false
set_option linter.unusedSimpArgs false

theorem eq_hintK (a c d : Int) (b : List UInt8) (a' c' d' : Int) (b' : List UInt8) (w : World) : (Op.equalIn 9999 30 (.agg #[.int .i64 a, .string ⟨b.toArray⟩, .int .i64 c, .int .i64 d]) (.agg #[.int .i64 a', .string ⟨b'.toArray⟩, .int .i64 c', .int .i64 d'])).run Try.prog w = .ok ((a == a') && ((b == b') && ((c == c') && (d == d')))) w := by
  obtain ⟨fs, hfs⟩ : ∃ fs, Try.prog.fieldsOf 30 = fs := ⟨_, rfl⟩
  have hu : Try.prog.underlying 30 = some (.struct (Try.prog.fieldsOf 30)) := by unfold Program.fieldsOf; rw [Try.underlying30]
  have hp : Try.prog.stoodInHeld 30 = false := by kernel_rfl
  have hi : ∀ w, (isAgg 3).run Try.prog w = .ok false w := fun w => by kernel_rfl
  have hs : ∀ w, (isAgg 9).run Try.prog w = .ok false w := fun w => by kernel_rfl
  have he : ∀ (x y : Int) (w : World), (Op.equalIn 9998 3 (.int .i64 x) (.int .i64 y)).run Try.prog w = .ok (x == y) w := fun x y w => run_equalIn_int w 9997 _ _ _ x y Try.underlying3
  have hes : ∀ (x y : List UInt8) (w : World), (Op.equalIn 9998 9 (.string ⟨x.toArray⟩) (.string ⟨y.toArray⟩)).run Try.prog w = .ok (x == y) w := fun x y w => by
    rw [run_equalIn_string w 9997 _ _ _ Try.underlying9]
    simp
  rw [run_equalIn_struct w 9998 _ _ _ hu hp]
  unfold Program.fieldsOf
  rw [Try.underlying30]
  have hpa : ∀ (cs : Array Value) (i : Nat) (v : Value) (w : World), cs[i]? = some v → (part 3 cs i).run Try.prog w = .ok v w := fun cs i v w h => by
    simp [part, hi, h]
  have hps : ∀ (cs : Array Value) (i : Nat) (v : Value) (w : World), cs[i]? = some v → (part 9 cs i).run Try.prog w = .ok v w := fun cs i v w h => by
    simp [part, hs, h]
  have h0 := fun w => hpa #[.int .i64 a, .string ⟨b.toArray⟩, .int .i64 c, .int .i64 d] 0 _ w rfl
  have h1 := fun w => hps #[.int .i64 a, .string ⟨b.toArray⟩, .int .i64 c, .int .i64 d] 1 _ w rfl
  have h2 := fun w => hpa #[.int .i64 a, .string ⟨b.toArray⟩, .int .i64 c, .int .i64 d] 2 _ w rfl
  have h3 := fun w => hpa #[.int .i64 a, .string ⟨b.toArray⟩, .int .i64 c, .int .i64 d] 3 _ w rfl
  have g0 := fun w => hpa #[.int .i64 a', .string ⟨b'.toArray⟩, .int .i64 c', .int .i64 d'] 0 _ w rfl
  have g1 := fun w => hps #[.int .i64 a', .string ⟨b'.toArray⟩, .int .i64 c', .int .i64 d'] 1 _ w rfl
  have g2 := fun w => hpa #[.int .i64 a', .string ⟨b'.toArray⟩, .int .i64 c', .int .i64 d'] 2 _ w rfl
  have g3 := fun w => hpa #[.int .i64 a', .string ⟨b'.toArray⟩, .int .i64 c', .int .i64 d'] 3 _ w rfl
  cases e1 : (a == a') <;> cases e2 : (b == b') <;> cases e3 : (c == c') <;> cases e4 : (d == d') <;> simp [Op.eqFields, h0, h1, h2, h3, g0, g1, g2, g3, he, hes, e1, e2, e3, e4]
theorem eq_pl (x y : Pl) (w : World) : (Op.equalIn 10000 32 (plV x) (plV y)).run Try.prog w = .ok (decide (x = y)) w := by
  obtain ⟨a, b, c, d, e⟩ := x
  obtain ⟨a', b', c', d', e'⟩ := y
  have hR : decide ((⟨a, b, c, d, e⟩ : Pl) = ⟨a', b', c', d', e'⟩) = ((a == a') && ((b == b') && ((c == c') && ((d == d') && (e == e'))))) := by
    rw [Bool.eq_iff_iff]
    simp
  rw [hR]
  unfold plV
  have hu : Try.prog.underlying 32 = some (.struct (Try.prog.fieldsOf 32)) := by unfold Program.fieldsOf; rw [Try.underlying32]
  have hp : Try.prog.stoodInHeld 32 = false := by kernel_rfl
  have hi : ∀ w, (isAgg 3).run Try.prog w = .ok false w := fun w => by kernel_rfl
  have he : ∀ (x y : Int) (w : World), (Op.equalIn 9999 3 (.int .i64 x) (.int .i64 y)).run Try.prog w = .ok (x == y) w := fun x y w => run_equalIn_int w 9998 _ _ _ x y Try.underlying3
  have hpa : ∀ (cs : Array Value) (i : Nat) (v : Value) (w : World), cs[i]? = some v → (part 3 cs i).run Try.prog w = .ok v w := fun cs i v w h => by
    simp [part, hi, h]
  have hph : ∀ (a b d e : Int) (c : ByteArray) (w : World), (part 30 #[.int .i64 a, .int .i64 b, .string c, .int .i64 d, .int .i64 e] 1).run Try.prog w = .ok (.agg #[.int .i64 b, .string c, .int .i64 d, .int .i64 e]) w := fun a b d e c w => by kernel_rfl
  rw [run_equalIn_struct w 9999 _ _ _ hu hp]
  unfold Program.fieldsOf
  rw [Try.underlying32]
  have h0 := fun w => hpa #[.int .i64 a, .int .i64 b, .string ⟨c.toArray⟩, .int .i64 d, .int .i64 e] 0 _ w rfl
  have g0 := fun w => hpa #[.int .i64 a', .int .i64 b', .string ⟨c'.toArray⟩, .int .i64 d', .int .i64 e'] 0 _ w rfl
  have hq := fun w => eq_hintK b d e c b' d' e' c' w
  obtain ⟨r, hr⟩ : ∃ r, ((b == b') && ((c == c') && ((d == d') && (e == e')))) = r := ⟨_, rfl⟩
  rw [hr] at hq ⊢
  cases e1 : (a == a') <;> cases r <;> simp [Op.eqFields, h0, g0, hph, he, hq, e1]
end Go.Proofs.Ytadgbobemmfjoaa
