/- The walks of the laws of package theseuslaw03: CrcSteps. -/
import Derived.Test.YtknfaomgplodkaaDoorL03
import Derived.Test.YtknfaomgplodkaaDoorFrame
namespace Go.Proofs.YtknfaomgplodkaaDoor
open Go.RowKit
set_option linter.unusedVariables false
set_option linter.unusedSimpArgs false

theorem flip_cast (s : Nat) (h : (s : Int) ≤ 4294967295) : 4294967295 - (s : Int) = ((flipN s : Nat) : Int) := by unfold flipN; omega
theorem flip_wrap (s : Nat) (h : (s : Int) ≤ 4294967295) : IntKind.u32.wrap (4294967295 - (s : Int)) = ((flipN s : Nat) : Int) := by
  rw [flip_cast s h, IntKind.wrap_u32]
  have := flipN_le s
  omega
set_option maxRecDepth 100000 in
set_option maxHeartbeats 1000000 in
theorem walkCrcSteps (a0 : Option Addr) (n0 c0 : Nat) (l0 : List UInt8) (a1 : Int) (w : World) (ht : Hid (Tab w)) (w0 : InB w a0 n0 c0 l0) (w1 : (Lit.int .u32 a1).wf = true) :
    Calls Tryd.prog 7 #[.slice a0 n0 c0, .int .u32 a1] w fun e w' => e = .returned (.bool true) ∧ Below w.heap.size w w' := by
  obtain ⟨hl1, hh1⟩ := bounds_u32 w1
  obtain ⟨s, rfl⟩ := Int.eq_ofNat_of_zero_le hl1
  have hs : (s : Int) ≤ 4294967295 := by omega
  clear w1 hl1 hh1
  obtain ⟨hlen, hcap, hmax, hhas⟩ := w0
  obtain ⟨L, hL⟩ : ∃ L, l0.take 100 = L := ⟨_, rfl⟩
  obtain ⟨M, hM⟩ : ∃ M, min n0 100 = M := ⟨_, rfl⟩
  have hLM : L.length = M := by rw [← hL, List.length_take, hlen]; omega
  have hLh : Has w a0 (vals L) := by rw [← hL, vals_take]; exact Has.take hhas 100
  have fw := fun (W : World) => few3 a0 n0 c0 W hcap hmax
  rw [hM] at fw
  have FW := Lib.hid fw
  have hMc : M ≤ c0 := by omega
  have hM1 : (M : Int) ≤ 100 := by omega
  have hMn : (M : Int) ≤ n0 := by omega
  have HLM := Lib.hid hLM
  have HMC := Lib.hid hMc
  have HX := Lib.hid hmax
  have HH := Lib.hid hLh
  clear fw hLM hLh hM hL hhas hlen hMc hcap hmax
  have e1 := flip_cast s hs
  go_enter Tryd.func7, Tryd.ntmps7
  go_wp2_with fail
  refine (shown3 _ ht).mono ?_
  rintro e w1 ⟨rfl, hb1⟩
  have HB1 := Lib.hid hb1
  have HI1 := Lib.hid (HH.out.bel hb1)
  have HT1 := Lib.hid (ht.out.bel hb1)
  clear hb1
  go_wp2_with fail
  go_loop [6, 7] (fun v i => ∃ k y : Nat, k ≤ M ∧ i = .int .i64 k ∧ v = .int .u32 y ∧ (y : Int) ≤ 4294967295 ∧ Hid (y = runN (flipN s) (L.take k))) (fun _ i => M - (intOf i).toNat)
  case atStart => exact ⟨0, flipN s, by omega, rfl, rfl, by have := flipN_le s; omega, rfl⟩
  case round =>
    obtain ⟨k, y, hk, rfl, rfl, hy, HY⟩ := hrel
    by_cases hlt : k < M
    · have hkl : k < L.length := by rw [HLM.out]; exact hlt
      obtain ⟨ad, rfl, hcell⟩ := HI1.out.at_ (k := k) (by rw [vals_length]; exact hkl)
      rw [vals_at L k hkl] at hcell
      have HD : Hid (stepN y L[k].toNat = runN (flipN s) (L.take (k + 1))) := by
        show _ = _
        rw [HY.out, runN_take _ _ _ hkl]
      have hb2 : (L[k].toNat : Int) ≤ 255 := by have := L[k].toNat_lt; omega
      have hz : (stepN y L[k].toNat : Int) ≤ 4294967295 := by have := stepN_lt y L[k].toNat (by omega) L[k].toNat_lt; omega
      generalize L[k].toNat = b at *
      have hkn : (k : Int) < n0 := by omega
      clear e1
      go_wp2_with fail
      refine (FW.out _).mono ?_
      rintro e w' ⟨rfl, rfl⟩
      go_wp2_with fail
      refine (step_any y b _ hy hb2 HT1).mono ?_
      rintro e w' ⟨rfl, rfl⟩
      generalize stepN y b = z at *
      go_wp2_with fail
      go_round
      case rel => exact ⟨k + 1, z, by omega, by go_num, rfl, hz, HD⟩
      case measure => simp [intOf]; omega
    · have hks : k = M := by omega
      subst hks
      clear e1
      have e2 := flip_cast y hy
      have HE : Hid (moreN s L = flipN y) := by
        show _ = _
        rw [HY.out, ← HLM.out, List.take_length]
        rfl
      go_wp2_with fail
      refine (FW.out _).mono ?_
      rintro e w' ⟨rfl, rfl⟩
      go_wp2_with fail
      refine (FW.out _).mono ?_
      rintro e w' ⟨rfl, rfl⟩
      go_wp2_with fail
      refine (more_core s _ _ _ L _ hs HLM HMC.out HX.out HI1 HT1).mono ?_
      rintro e w' ⟨rfl, rfl⟩
      rw [HE.out]
      go_wp2_with fail
      refine (sum_any _ [] _ (IsB.nil_ _) HT1).mono ?_
      rintro e w' ⟨rfl, rfl⟩
      rw [show sumN [] = 0 from by decide]
      go_wp2_with fail
      refine (more_any s _ [] _ hs (IsB.nil_ _) HT1).mono ?_
      rintro e w' ⟨rfl, rfl⟩
      rw [moreN_nil s (by omega)]
      go_wp2_with fail
      go_ret
      exact ⟨rfl, HB1.out⟩
end Go.Proofs.YtknfaomgplodkaaDoor
