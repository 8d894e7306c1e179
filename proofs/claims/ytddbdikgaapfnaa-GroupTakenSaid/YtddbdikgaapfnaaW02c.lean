/- The walks of the laws of package theseuslaw02: GroupTaken. -/
import Derived.Test.YtddbdikgaapfnaaL02
import Derived.Test.YtddbdikgaapfnaaFrame
namespace Go.Proofs.Ytddbdikgaapfnaa
open Go.RowKit
set_option linter.unusedVariables false
set_option linter.unusedSimpArgs false

set_option maxRecDepth 100000 in
set_option maxHeartbeats 1000000 in
theorem walkGroupTaken (a0 : Option Addr) (n0 c0 : Nat) (l0 : List UInt8) (w : World) (w0 : InB w a0 n0 c0 l0) :
    Calls Try.prog 5 #[.slice a0 n0 c0] w fun e w' => e = .returned (.bool true) ∧ Below w.heap.size w w' := by
  obtain ⟨hlen, hcap, hmax, hhas⟩ := w0
  obtain ⟨M, hM⟩ : ∃ M, min n0 20 = M := ⟨_, rfl⟩
  have hM1 : M ≤ 20 := by omega
  have hM2 : M ≤ c0 := by omega
  have HL : Hid ((l0.take 20).length = M) := by show _ = _; rw [List.length_take, hlen, Nat.min_comm]; exact hM
  have HH : Hid (Has w a0 (vals (l0.take 20))) := by rw [vals_take]; exact Has.take hhas 20
  generalize l0.take 20 = L at *
  have HM := Lib.hid hM
  have HC := Lib.hid hcap
  have HX := Lib.hid hmax
  have hmax' := hmax
  unfold maxLen at hmax'
  clear hM hmax hhas hlen
  have HTG := Lib.hid (taken_grp L)
  go_enter Try.func5, Try.ntmps5
  go_wp2_with fail
  refine (shown2 _).mono ?_
  rintro e w1 ⟨rfl, hb1⟩
  have HB1 := Lib.hid hb1
  clear hb1
  go_wp2_with fail
  refine (few2 _ _ _ _ HC.out HX.out).mono ?_
  rintro e w' ⟨rfl, rfl⟩
  rw [HM.out]
  go_wp2_with fail
  refine (gtake_core a0 M c0 L _ HL hM2 HX.out (HH.out.bel HB1.out)).mono ?_
  rintro e w' ⟨rfl, rfl⟩
  rcases HTG.out with ⟨x, hx, htg, hsl, htk⟩ | htg | ⟨htg, hl4⟩
  · obtain ⟨s, HS, hs1, hs2⟩ := size_pack x
    rw [htg]
    rw [HS.out, HL.out] at hsl
    rw [HS.out] at htk
    have HTK := Lib.hid htk
    clear htg htk HTG
    rw [HS.out]
    have hx' : (x : Int) ≤ 268435455 := by omega
    clear hx
    go_wp2_with fail
    refine (gput_core x s _ hx' HS).mono ?_
    rintro e w' ⟨rfl, rfl⟩
    have p1 := Has.new w1 (vals (grp x)) 5 (0, 0)
    have p2 : Has (w1.alloc (.cells (vals (grp x)).toArray 5)) a0 (vals (grp x)) := by
      rw [← HTK.out, vals_take]
      exact ((HH.out.bel HB1.out).alloc _).take s
    have HB2 := Lib.hid (HB1.out.alloc HB1.out.size (.cells (vals (grp x)).toArray 5))
    have hgl : (grp x).length = s := by rw [grp_length]; exact HS.out
    generalize w1.alloc (.cells (vals (grp x)).toArray 5) = W at *
    generalize w1.heap.size = g at *
    have c1 := fun k => run_string_of (P := Try.prog) (W.drewN k) 22 5 9 Try.underlying22 Try.underlying5 Try.underlying9 _ s s _ hgl (p1.drewN k)
    have c2 := fun k => run_string_of (P := Try.prog) (W.drewN k) 22 5 9 Try.underlying22 Try.underlying5 Try.underlying9 _ s c0 _ hgl (p2.drewN k)
    generalize grp x = Y at *
    clear p1 p2 hgl
    go_wp2_with fail
    go_quiet (fail)
    go_wp2
    go_ret
    exact ⟨rfl, drewN_below HB2.out _⟩
  · rw [htg]
    clear htg HTG
    go_wp2_with fail
    go_ret
    exact ⟨rfl, HB1.out⟩
  · rw [htg]
    rw [HL.out] at hl4
    have hdd : decide ((M : Int) < 4) = true := decide_eq_true (by omega)
    clear htg HTG
    go_wp2_with fail
    go_ret
    exact ⟨rfl, HB1.out⟩
end Go.Proofs.Ytddbdikgaapfnaa
