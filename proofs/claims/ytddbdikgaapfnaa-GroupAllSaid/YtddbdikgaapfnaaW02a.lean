/- The walks of the laws of package theseuslaw02: GroupAll. -/
import Derived.Test.YtddbdikgaapfnaaL02
import Derived.Test.YtddbdikgaapfnaaRef02
import Derived.Test.YtddbdikgaapfnaaFrame
namespace Go.Proofs.Ytddbdikgaapfnaa
open Go.RowKit
set_option linter.unusedVariables false
set_option linter.unusedSimpArgs false

theorem size_putG (n : Int) : ((putG n).1.length : Int) = sizeS n := by
  unfold putG sizeS
  split
  · rw [grp_length]
  · rfl
set_option maxRecDepth 100000 in
set_option maxHeartbeats 1000000 in
theorem walkGroupAll (a0 : Int) (a1 : Option Addr) (n1 c1 : Nat) (l1 : List UInt8) (w : World) (w0 : (Lit.int .i64 a0).wf = true) (w1 : InB w a1 n1 c1 l1) :
    Calls Try.prog 3 #[.int .i64 a0, .slice a1 n1 c1] w fun e w' => e = .returned (.bool true) ∧ Below w.heap.size w w' := by
  obtain ⟨hlen, hcap, hmax, hhas⟩ := w1
  obtain ⟨M, hM⟩ : ∃ M, min n1 20 = M := ⟨_, rfl⟩
  have HIB : Hid (IsB w (.slice a1 M c1) (l1.take 20)) := ⟨_, _, _, rfl, by omega, hmax, by rw [List.length_take, hlen]; omega, by rw [vals_take]; exact Has.take hhas 20⟩
  have HM := Lib.hid hM
  have HC := Lib.hid hcap
  have HX := Lib.hid hmax
  have HS := Lib.hid (size_putG a0)
  clear hM hcap hmax hhas hlen w0
  go_enter Try.func3, Try.ntmps3
  go_wp2_with fail
  refine (shown2 _).mono ?_
  rintro e w1 ⟨rfl, hb1⟩
  have HB1 := Lib.hid hb1
  clear hb1
  go_wp2_with fail
  refine (gput_any _ _).mono ?_
  rintro e w2 ⟨v2, rfl, hv2, hb2⟩
  have HB2 := Lib.hid (HB1.out.trans (hb2.mono HB1.out.size))
  have HV2 := Lib.hid hv2
  clear hv2 hb2
  go_wp2_with fail
  refine (rgput_any _ _).mono ?_
  rintro e w3 ⟨v3, rfl, hv3, hb3⟩
  have HB3 := Lib.hid (HB2.out.trans (hb3.mono HB2.out.size))
  have k1 := run_string_isb0 (P := Try.prog) w3 22 5 9 Try.underlying22 Try.underlying5 Try.underlying9 (HV2.out.bel hb3)
  obtain ⟨A3, n3, c3, rfl, h31, h32, h33, h34⟩ := hv3
  have k2 := run_string_of (P := Try.prog) w3 22 5 9 Try.underlying22 Try.underlying5 Try.underlying9 _ n3 c3 _ h33 h34
  have heq : (sizeS a0 == (n3 : Int)) = true := beq_iff_eq.2 (by rw [← HS.out, h33])
  clear hb3 HV2 HS h31 h32 h33 h34
  generalize putG a0 = Y at *
  go_wp2_with fail
  refine (few2 _ _ _ _ HC.out HX.out).mono ?_
  rintro e w' ⟨rfl, rfl⟩
  rw [HM.out]
  go_wp2_with fail
  refine (gtake_any _ _ _ (HIB.out.bel HB3.out)).mono ?_
  rintro e w' ⟨rfl, rfl⟩
  go_wp2_with fail
  refine (few2 _ _ _ _ HC.out HX.out).mono ?_
  rintro e w' ⟨rfl, rfl⟩
  rw [HM.out]
  go_wp2_with fail
  refine (rgtake_any _ _ _ (HIB.out.bel HB3.out)).mono ?_
  rintro e w' ⟨rfl, rfl⟩
  generalize takeG (List.take 20 l1) = T at *
  go_wp2_with (go_at_call 16; refine (gsize_any _ _).mono ?_; rintro e w' ⟨rfl, rfl⟩)
  go_ret
  exact ⟨rfl, HB3.out⟩
end Go.Proofs.Ytddbdikgaapfnaa
