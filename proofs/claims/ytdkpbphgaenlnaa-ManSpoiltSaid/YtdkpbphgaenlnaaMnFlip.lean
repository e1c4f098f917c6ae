/-
  A manifest's file in which something has turned.
-/
import Derived.Test.YtdkpbphgaenlnaaMK
import Derived.Test.YtdkpbphgaenlnaaMX
import Derived.Test.YtdkpbphgaenlnaaMR
namespace Go.Proofs.Ytdkpbphgaenlnaa
open Go.RowKit
set_option linter.unusedVariables false
set_option linter.unusedSimpArgs false
theorem burst_bitsM (bs : List UInt8) (K v : Nat) : ∀ i, K + i ≤ 8 * bs.length → burstB bs K v i = rflipB v K i bs
  | 0, _ => (rflipB_zero v K bs).symm
  | i + 1, h => by
    rw [burstB, burst_bitsM bs K v i (by omega)]
    by_cases hb : v / 2 ^ i % 2 = 1
    · rw [if_pos hb, rflipB_one hb rfl (by omega)]
      rfl
    · rw [if_neg hb, rflipB_none hb]
theorem burst_flipM {bs : List UInt8} {K v : Nat} (hK : K + 32 ≤ 8 * bs.length) (hv : v < 4294967296) : flipT (v * 2 ^ (K % 8)) (K / 8) bs = burstB bs K v 32 := by
  rw [burst_bitsM bs K v 32 hK, rflipB_all hv]
theorem SS.sized {wl : Bool} {m : Dk} {f : Nat} {x : Mn} (h : SS wl m (some (f, x))) : m.size nmM = (((putM x).length : Int), true) := by
  rw [size_some (f := f) (by rw [h.sg.names]; rfl), (h.sg.olds _ rfl).2.1]
theorem SS.spoilt {wl : Bool} {m : Dk} {f : Nat} {x : Mn} (h : SS wl m (some (f, x))) {K v : Nat} (hK : K + 32 ≤ 8 * (putM x).length) (hv : v < 4294967296) (hv0 : v ≠ 0) :
    (m.flip nmM (K : Nat) v).2 = true ∧ loadP (m.flip nmM (K : Nat) v).1 = (Mn.none, false, 22) := by
  obtain ⟨_, hf, hr⟩ := h.sg.olds _ rfl
  dsimp only at hf hr
  have hn : Dir.find nmM m.names = some f := by rw [h.sg.names]; rfl
  have e : m.flip nmM (K : Nat) v = (m.setFile f ⟨flipT (v * 2 ^ (K % 8)) (K / 8) (m.files f).bytes, (m.files f).kept⟩, true) := by
    unfold Dk.flip
    rw [hn]
    dsimp only
    rw [if_neg (by rw [hf]; dsimp only; omega)]
    rfl
  rw [e, hf]
  dsimp only
  rw [burst_flipM hK hv]
  refine ⟨rfl, ?_⟩
  obtain ⟨m', hm'⟩ : ∃ m', m.setFile f ⟨burstB (putM x) K v 32, (putM x).length⟩ = m' := ⟨_, rfl⟩
  rw [hm']
  have hb : (m'.files f).bytes = burstB (putM x) K v 32 := by
    rw [← hm']
    show (if f = f then _ else _ : Fl).bytes = _
    rw [if_pos rfl]
  have hn' : Dir.find nmM m'.names = some f := by rw [← hm']; exact hn
  have hd : m'.down = false := by rw [← hm']; exact h.down
  have hr2 : m'.read nmM 0 (m'.size nmM).1 = (some (burstB (putM x) K v 32), 0) := by
    rw [size_some hn']
    unfold Dk.read
    rw [if_neg (by rw [hd]; decide), hn']
    dsimp only
    rw [hb, if_neg (by omega)]
    have e : (List.length (burstB (putM x) K v 32) : Int).toNat = (burstB (putM x) K v 32).length := Int.toNat_natCast _
    rw [e, show (0 : Int).toNat = 0 from rfl, List.drop_zero, List.take_length]
  unfold loadP
  rw [hr2]
  dsimp only
  rw [if_neg (by decide), if_pos rfl, Option.getD_some, get_spoiltM hr hK hv hv0]
end Go.Proofs.Ytdkpbphgaenlnaa
