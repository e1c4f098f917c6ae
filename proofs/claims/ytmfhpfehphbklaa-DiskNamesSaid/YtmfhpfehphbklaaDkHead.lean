/-
  The walk of souterrainlaw08.head: it is true, and writes nothing that was there.
-/
import Derived.Test.YtmfhpfehphbklaaDkIn
namespace Go.Proofs.Ytmfhpfehphbklaa
open Go.RowKit Go.Maps Go.WideMaps
set_option linter.unusedVariables false
set_option linter.unusedSimpArgs false

namespace Hd
def M0 : Dk := Dk.new 10
theorem M0ok : DkOk 0 M0 := DkOk.new 10
def M1 : Dk := (M0.create [98]).1
theorem M1ok : DkOk 1 M1 := M0ok.create _
def M2 : Dk := (M1.create [98]).1
theorem M2ok : DkOk 2 M2 := M1ok.create _
def M3 : Dk := M2.syncDir.1
theorem M3ok : DkOk 2 M3 := M2ok.syncDir
def M4 : Dk := (M3.append [98] [97, 98, 99]).1
theorem M4ok : DkOk 5 M4 := M3ok.append [98] [97, 98, 99]
def M5 : Dk := (M4.sync [98]).1
theorem M5ok : DkOk 5 M5 := M4ok.sync _
def M6 : Dk := (M5.append [98] [100, 101, 102, 103]).1
theorem M6ok : DkOk 9 M6 := M5ok.append [98] [100, 101, 102, 103]
def M7 : Dk := (M6.append [98] [104, 105, 106, 107]).1
theorem M7ok : DkOk 13 M7 := M6ok.append [98] [104, 105, 106, 107]
def M8 : Dk := (M7.rename [98] [97]).1
theorem M8ok : DkOk 14 M8 := M7ok.rename _ _
def M9 : Dk := (M8.create [99]).1
theorem M9ok : DkOk 15 M9 := M8ok.create _
def M10 : Dk := M9.setFail 0
theorem M10ok : DkOk 15 M10 := M9ok.fails 0 (by omega)
def M11 : Dk := (M10.remove [99]).1
theorem M11ok : DkOk 16 M11 := M10ok.remove _
def M12 : Dk := M11.setCut 1
theorem M12ok : DkOk 16 M12 := M11ok.cuts 1 (by omega)
def M13 : Dk := (M12.sync [99]).1
theorem M13ok : DkOk 16 M13 := M12ok.sync _
def M14 : Dk := (M13.sync [99]).1
theorem M14ok : DkOk 16 M14 := M13ok.sync _
def M15 : Dk := M14.boot 1 [2]
theorem M15ok : DkOk 16 M15 := M14ok.boot 1 [2]
end Hd
open Hd

theorem below_trans {B : Nat} {a b c : World} (h : Below B a b) (k : Below B b c) : Below B a c := h.trans k

set_option maxHeartbeats 16000000 in
set_option maxRecDepth 100000 in
theorem head8_any (w : World) : Calls Try.prog 23 #[] w fun e w' => e = .returned (.bool true) ∧ Below w.heap.size w w' := by
  go_enter Try.func23, Try.ntmps23
  go_wp2_with (fail)
  refine (new_any w 10).mono ?_
  rintro e w1 ⟨d, rfl, hn⟩
  have HD := Lib.hid (show DkIn w.heap.size w w1 d (fun _ => False) M0 from DkIn.new hn (Nat.le_refl _) (Below.refl _ _) (fun k h => h.elim))
  clear hn
  go_wp2_with (fail)
  refine (create_in [98] HD.out M0ok (by omega) (by decide) (show (M0.create [98]).2 = 0 by kernel_rfl) (show (M0.create [98]).1 = M1 from rfl)).mono ?_
  rintro e w2 ⟨rfl, hd, hs⟩
  have HD2 := Lib.hid hd
  clear hd hs HD
  have HD := HD2
  clear HD2
  go_wp2_with (fail)
  refine (create_in [98] HD.out M1ok (by omega) (by decide) (show (M1.create [98]).2 = 4 by kernel_rfl) (show (M1.create [98]).1 = M2 from rfl)).mono ?_
  rintro e w3 ⟨rfl, hd, hs⟩
  have HD2 := Lib.hid hd
  clear hd hs HD
  have HD := HD2
  clear HD2
  go_wp2_with (fail)
  refine (syncDir_in HD.out M2ok (by omega) (show M2.syncDir.2 = 0 by kernel_rfl) (show M2.syncDir.1 = M3 from rfl)).mono ?_
  rintro e w4 ⟨rfl, hd, hs⟩
  have HD2 := Lib.hid hd
  clear hd hs HD
  have HD := HD2
  clear HD2
  have hm := Whole.made w4 5 #[.int .u8 97, .int .u8 98, .int .u8 99]
  obtain ⟨w5, hrun, hheld, hbel, _⟩ := conv_mark (n := 3) (c := 3) hm
  have hg : Grows w4 w5 := Below.trans ((Below.refl _ _).alloc (Nat.le_refl _) _) hbel
  have HL := Lib.hid (And.intro (hheld.sl [97, 98, 99] rfl rfl) (And.intro hheld.lt (HD.out.more hg)))
  clear hm hheld hbel hg
  go_wp2_with (fail)
  refine (append_in [98] HL.out.2.2 M3ok (by omega) (by decide) HL.out.1 (fun ad e _ => .inr (.inr (by injection e with e; subst e; exact ⟨Nat.le_refl _, HL.out.2.1⟩))) (by decide) (show (M3.append [98] [97, 98, 99]).2 = 0 by kernel_rfl) (show (M3.append [98] [97, 98, 99]).1 = M4 from rfl)).mono ?_
  rintro e w6 ⟨rfl, hd, hs⟩
  have HD2 := Lib.hid (hd.less (out' := fun _ => False) (fun k h => h.elim))
  clear hd hs HD HL hrun
  have HD := HD2
  clear HD2
  go_wp2_with (fail)
  refine (sync_in [98] HD.out M4ok (by omega) (by decide) (show (M4.sync [98]).2 = 0 by kernel_rfl) (show (M4.sync [98]).1 = M5 from rfl)).mono ?_
  rintro e w7 ⟨rfl, hd, hs⟩
  have HD2 := Lib.hid hd
  clear hd hs HD
  have HD := HD2
  clear HD2
  have hm := Whole.made w7 5 #[.int .u8 100, .int .u8 101, .int .u8 102, .int .u8 103]
  obtain ⟨w8, hrun, hheld, hbel, _⟩ := conv_mark (n := 4) (c := 4) hm
  have hg : Grows w7 w8 := Below.trans ((Below.refl _ _).alloc (Nat.le_refl _) _) hbel
  have HL := Lib.hid (And.intro (hheld.sl [100, 101, 102, 103] rfl rfl) (And.intro hheld.lt (HD.out.more hg)))
  clear hm hheld hbel hg
  go_wp2_with (fail)
  refine (append_in [98] HL.out.2.2 M5ok (by omega) (by decide) HL.out.1 (fun ad e _ => .inr (.inr (by injection e with e; subst e; exact ⟨Nat.le_refl _, HL.out.2.1⟩))) (by decide) (show (M5.append [98] [100, 101, 102, 103]).2 = 0 by kernel_rfl) (show (M5.append [98] [100, 101, 102, 103]).1 = M6 from rfl)).mono ?_
  rintro e w9 ⟨rfl, hd, hs⟩
  have HD2 := Lib.hid (hd.less (out' := fun _ => False) (fun k h => h.elim))
  clear hd hs HD HL hrun
  have HD := HD2
  clear HD2
  have hm := Whole.made w9 5 #[.int .u8 104, .int .u8 105, .int .u8 106, .int .u8 107]
  obtain ⟨w10, hrun, hheld, hbel, _⟩ := conv_mark (n := 4) (c := 4) hm
  have hg : Grows w9 w10 := Below.trans ((Below.refl _ _).alloc (Nat.le_refl _) _) hbel
  have HL := Lib.hid (And.intro (hheld.sl [104, 105, 106, 107] rfl rfl) (And.intro hheld.lt (HD.out.more hg)))
  clear hm hheld hbel hg
  go_wp2_with (fail)
  refine (append_in [98] HL.out.2.2 M6ok (by omega) (by decide) HL.out.1 (fun ad e _ => .inr (.inr (by injection e with e; subst e; exact ⟨Nat.le_refl _, HL.out.2.1⟩))) (by decide) (show (M6.append [98] [104, 105, 106, 107]).2 = 5 by kernel_rfl) (show (M6.append [98] [104, 105, 106, 107]).1 = M7 from rfl)).mono ?_
  rintro e w11 ⟨rfl, hd, hs⟩
  have HD2 := Lib.hid (hd.less (out' := fun _ => False) (fun k h => h.elim))
  clear hd hs HD HL hrun
  have HD := HD2
  clear HD2
  go_wp2_with (fail)
  refine (rename_in [98] [97] HD.out M7ok (by omega) (by decide) (by decide) (show (M7.rename [98] [97]).2 = 0 by kernel_rfl) (show (M7.rename [98] [97]).1 = M8 from rfl)).mono ?_
  rintro e w12 ⟨rfl, hd, hs⟩
  have HD2 := Lib.hid hd
  clear hd hs HD
  have HD := HD2
  clear HD2
  go_wp2_with (fail)
  refine (create_in [99] HD.out M8ok (by omega) (by decide) (show (M8.create [99]).2 = 0 by kernel_rfl) (show (M8.create [99]).1 = M9 from rfl)).mono ?_
  rintro e w13 ⟨rfl, hd, hs⟩
  have HD2 := Lib.hid hd
  clear hd hs HD
  have HD := HD2
  clear HD2
  go_wp2_with (fail)
  have hli := list_in HD.out M9ok (by omega)
  rw [show M9.names.length = 2 by kernel_rfl, show M9.names.map (·.1) = [[97], [99]] by kernel_rfl] at hli
  refine hli.mono ?_
  clear hli
  rintro e w14 ⟨LA, lc, rfl, hl, hg⟩
  have HLR := Lib.hid (And.intro (show w14.ownsRow w13.heap.size 9 1 (.slice LA 2 lc) 2 (([[97], [99]] : List Nm).map strB) from hl) (show Stays w.heap.size (fun k => False ∨ (w13.heap.size ≤ k ∧ k < w14.heap.size)) w14 w14 from Spares.refl _ _))
  have HS := Lib.hid HLR.out.2
  have HD2 := Lib.hid (HD.out.more hg)
  clear hl hg HD
  have HD := HD2
  clear HD2
  go_wp2_with (fail)
  refine (fail_in 0 HD.out (m := M9)).mono ?_
  rintro e w15 ⟨rfl, hd, hs⟩
  have HS2 := Lib.hid (HS.out.trans hs)
  clear HS
  have HS := HS2
  clear HS2
  have HD2 := Lib.hid hd
  clear hd hs HD
  have HD := HD2
  clear HD2
  go_wp2_with (fail)
  refine (remove_in [99] HD.out M10ok (by omega) (by decide) (show (M10.remove [99]).2 = 81 by kernel_rfl) (show (M10.remove [99]).1 = M11 from rfl)).mono ?_
  rintro e w16 ⟨rfl, hd, hs⟩
  have HS2 := Lib.hid (HS.out.trans hs)
  clear HS
  have HS := HS2
  clear HS2
  have HD2 := Lib.hid hd
  clear hd hs HD
  have HD := HD2
  clear HD2
  go_wp2_with (fail)
  refine (cut_in 1 HD.out (m := M11)).mono ?_
  rintro e w17 ⟨rfl, hd, hs⟩
  have HS2 := Lib.hid (HS.out.trans hs)
  clear HS
  have HS := HS2
  clear HS2
  have HD2 := Lib.hid hd
  clear hd hs HD
  have HD := HD2
  clear HD2
  go_wp2_with (fail)
  refine (sync_in [99] HD.out M12ok (by omega) (by decide) (show (M12.sync [99]).2 = 0 by kernel_rfl) (show (M12.sync [99]).1 = M13 from rfl)).mono ?_
  rintro e w18 ⟨rfl, hd, hs⟩
  have HS2 := Lib.hid (HS.out.trans hs)
  clear HS
  have HS := HS2
  clear HS2
  have HD2 := Lib.hid hd
  clear hd hs HD
  have HD := HD2
  clear HD2
  go_wp2_with (fail)
  refine (sync_in [99] HD.out M13ok (by omega) (by decide) (show (M13.sync [99]).2 = 82 by kernel_rfl) (show (M13.sync [99]).1 = M14 from rfl)).mono ?_
  rintro e w19 ⟨rfl, hd, hs⟩
  have HS2 := Lib.hid (HS.out.trans hs)
  clear HS
  have HS := HS2
  clear HS2
  have HD2 := Lib.hid hd
  clear hd hs HD
  have HD := HD2
  clear HD2
  go_wp2_with (fail)
  refine (read_in [97] 0 1 HD.out M14ok (by omega) (by decide) (by omega) (by omega) (show M14.read [97] 0 1 = (none, 82) by kernel_rfl)).mono ?_
  rintro e w20 ⟨rfl, rfl⟩
  have hm := Whole.made w19 3 #[.int .i64 2]
  have hg := grows_alloc w19 (.cells #[.int .i64 2] 3)
  have HL := Lib.hid (And.intro (Ints.lit hm [2] rfl rfl) (And.intro hm.lt (And.intro (HD.out.more hg) (HS.out.trans (Stays.grows hg)))))
  clear hm hg
  go_wp2_with (fail)
  refine (boot_in 1 HL.out.2.2.1 M14ok (by omega) HL.out.1 (by intro x hx; rw [List.mem_singleton] at hx; omega) (fun ad e _ => .inr (.inr (by injection e with e; subst e; exact ⟨Nat.le_refl _, HL.out.2.1⟩)))).mono ?_
  rintro e w21 ⟨rfl, hd, hs⟩
  have HD2 := Lib.hid (show DkIn w.heap.size w w21 d (fun k => False ∨ (w13.heap.size ≤ k ∧ k < w14.heap.size)) M15 from hd.less (fun k h => .inl h))
  have HS2 := Lib.hid (HL.out.2.2.2.trans (Spares.wider (own' := fun k => w.heap.size ≤ k ∧ ¬ (False ∨ (w13.heap.size ≤ k ∧ k < w14.heap.size))) hs fun k _ hk => ⟨hk.1, fun e => hk.2 (.inl e)⟩))
  clear hd hs HD HL HS
  go_wp2_with (fail)
  refine (read_in [97] 0 5 HD2.out M15ok (by omega) (by decide) (by omega) (by omega) (show M15.read [97] 0 5 = (some [97, 98, 99, 100, 101], 0) by kernel_rfl)).mono ?_
  rintro e w22 ⟨rfl, hr, hg⟩
  have HX := Lib.hid (And.intro (show Sl w22 (some ⟨w21.heap.size, 0, none⟩) 5 5 [97, 98, 99, 100, 101] from Sl.owned hr) hg)
  have HD := Lib.hid (HD2.out.grow hg)
  have HS := Lib.hid (HS2.out.trans (Stays.grows hg))
  clear hr hg HD2 HS2
  go_wp2_with (fail)
  refine (read_in [97] 0 6 HD.out M15ok (by omega) (by decide) (by omega) (by omega) (show M15.read [97] 0 6 = (none, 1) by kernel_rfl)).mono ?_
  rintro e wz ⟨rfl, rfl⟩
  have hrow : Row w22 w22.heap.size LA 2 (([[97], [99]] : List Nm).map strB) := Row.owned (row_same HLR.out.1 fun k hk => HS.out.same k (HLR.out.1.lt k hk).2 fun e => e.2 (.inr (HLR.out.1.lt k hk)))
  have HROW := Lib.hid hrow
  have hgl := grows_alloc w22 (.cells #[.string ⟨#[97]⟩, .string ⟨#[99]⟩] 9)
  have hml := Whole.made w22 9 #[.string ⟨#[97]⟩, .string ⟨#[99]⟩]
  have hlr : Row (w22.alloc (.cells #[.string ⟨#[97]⟩, .string ⟨#[99]⟩] 9)) (w22.alloc (.cells #[.string ⟨#[97]⟩, .string ⟨#[99]⟩] 9)).heap.size (some ⟨w22.heap.size, 0, none⟩) 2 (([[97], [99]] : List Nm).map strB) := ⟨rfl, fun k v hv => ⟨⟨w22.heap.size, 0, none⟩, rfl, hml.lt, by
    rw [show (⟨w22.heap.size, 0, none⟩ : Addr).add k = ⟨w22.heap.size, k, none⟩ by unfold Addr.add; split <;> simp_all, hml.cell k, List.getElem?_toArray]
    exact hv⟩⟩
  have hsm := (same_names LA 2 lc (some ⟨w22.heap.size, 0, none⟩) 2 2 [[97], [99]] [[97], [99]] _ (hgl.row HROW.out) hlr (by omega))
  rw [decide_eq_true rfl] at hsm
  have HSM := Lib.hid hsm
  clear hsm
  have HGL := Lib.hid hgl
  clear hgl hml hlr
  go_wp2_with (fail)
  refine HSM.out.mono ?_
  rintro e wy ⟨rfl, hgy⟩
  have HGY := Lib.hid (HGL.out.trans hgy)
  have hstr := run_string (HX.out.1.grow HGY.out)
  clear hgy HSM
  have hli := list_in (HD.out.grow HGY.out) M15ok (by omega)
  rw [show M15.names.length = 1 by kernel_rfl] at hli
  have HLI := Lib.hid hli
  clear hli
  go_wp2_with (fail)
  refine HLI.out.mono ?_
  rintro e wx ⟨LB, lb, rfl, _, hgx⟩
  have hdn := down_in ((HD.out.grow HGY.out).grow hgx)
  rw [show M15.down = false by kernel_rfl] at hdn
  have HDN := Lib.hid (And.intro hdn ((HD.out.grow HGY.out).grow hgx))
  clear hdn hgx hstr
  go_wp2_with (fail)
  refine HDN.out.1.mono ?_
  rintro e wv ⟨rfl, rfl⟩
  go_wp2_with (fail)
  go_ret
  exact ⟨rfl, HDN.out.2.low⟩
end Go.Proofs.Ytmfhpfehphbklaa

