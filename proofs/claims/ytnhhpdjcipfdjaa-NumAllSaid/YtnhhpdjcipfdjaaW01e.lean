/- The walks of the laws of package theseuslaw01: NumAll. -/
import Derived.Test.YtnhhpdjcipfdjaaL01
import Derived.Test.YtnhhpdjcipfdjaaRef01
import Derived.Test.YtnhhpdjcipfdjaaFrame
namespace Go.Proofs.Ytnhhpdjcipfdjaa
open Go.RowKit
set_option linter.unusedVariables false
set_option linter.unusedSimpArgs false
attribute [local go_sem ↓] sliced_cut
attribute [local go_sem] cutA_zero

set_option maxRecDepth 100000 in
set_option maxHeartbeats 2000000 in
theorem walkNumAll (a0 : Option Addr) (n0 c0 : Nat) (l0 : List Int) (a1 : Int) (a2 : Option Addr) (n2 c2 : Nat) (l2 : List UInt8) (w : World) (w0 : InI .i64 w a0 n0 c0 l0) (w1 : (Lit.int .i64 a1).wf = true) (w2 : InB w a2 n2 c2 l2) :
    Calls Try.prog 3 #[.slice a0 n0 c0, .int .i64 a1, .slice a2 n2 c2] w fun e w' => e = .returned (.bool true) ∧ Below w.heap.size w w' := by
  obtain ⟨hlen, hcap, hmax, hhas, hwf⟩ := w0
  obtain ⟨hlen2, hcap2, hmax2, hhas2⟩ := w2
  obtain ⟨N, hN⟩ : ∃ N, min n0 20 = N := ⟨_, rfl⟩
  obtain ⟨M, hM⟩ : ∃ M, min n2 40 = M := ⟨_, rfl⟩
  have hN1 : N ≤ 20 := by omega
  have hN2 : N ≤ n0 := by omega
  have HN := Lib.hid hN
  have HM := Lib.hid hM
  have HI : Hid (IsI w (.slice a0 N c0) (l0.take 20)) := ⟨_, _, _, rfl, by omega, hmax, by rw [List.length_take, hlen]; omega, by rw [ints_take]; exact Has.take hhas 20⟩
  have HIB : Hid (IsB w (.slice a2 M c2) (l2.take 40)) := ⟨_, _, _, rfl, by omega, hmax2, by rw [List.length_take, hlen2]; omega, by rw [vals_take]; exact Has.take hhas2 40⟩
  have HW : Hid (∀ x ∈ l0.take 20, (Lit.int .i64 x).wf = true) := fun x hx => hwf x (List.mem_of_mem_take hx)
  have HTL : Hid ((l0.take 20).length ≤ 1048576) := by show _ ≤ _; rw [List.length_take]; omega
  have HC := Lib.hid hcap
  have HC2 := Lib.hid hcap2
  have HX := Lib.hid hmax
  have HX2 := Lib.hid hmax2
  have HHAS := Lib.hid hhas
  have HLEN := Lib.hid hlen
  have HWF := Lib.hid hwf
  have HW1 := Lib.hid w1
  clear hN hM hcap2 hmax2 hhas hlen hhas2 hlen2 hwf w1
  have hmax' := hmax
  unfold maxLen at hmax'
  clear hmax
  go_enter Try.func3, Try.ntmps3
  go_wp2_with fail
  refine (shown1 _).mono ?_
  rintro e w1 ⟨rfl, hb1⟩
  have HB1 := Lib.hid hb1
  clear hb1
  go_wp2_with fail
  go_loopw [8] (fun i wr => ∃ s : Int, -1 ≤ s ∧ s ≤ 6 ∧ i = .int .i64 s ∧ Hid (Below w.heap.size w wr)) (fun i _ => (6 - intOf i).toNat)
  case atStart => exact ⟨-1, by omega, by omega, rfl, HB1⟩
  case round =>
    obtain ⟨s, hs1, hs2, rfl, HBr⟩ := hrel
    by_cases hlt : s < 6
    · go_wp2_with fail
      obtain ⟨wo, hwo⟩ : ∃ wo : World, wo = wr := ⟨_, rfl⟩
      subst hwo
      go_loopw [9] (fun i wi => ∃ j : Nat, j ≤ N ∧ i = .int .i64 j ∧ Hid (Below w.heap.size w wi)) (fun i _ => N - (intOf i).toNat)
      case atStart => exact ⟨0, by omega, rfl, HBr⟩
      case round =>
        obtain ⟨j, hj, rfl, HBi⟩ := hrel
        by_cases hjl : j < N
        · go_wp2_with fail
          refine (short1 _ _ _ _ HC.out HX.out).mono ?_
          rintro e w' ⟨rfl, rfl⟩
          rw [HN.out]
          have hjl0 : j < l0.length := by rw [HLEN.out]; omega
          obtain ⟨ad, rfl, hcell0⟩ := HHAS.out.at_ (k := j) (by rw [List.length_map]; exact hjl0)
          rw [List.getElem_map] at hcell0
          have HCE := Lib.hid hcell0
          clear hcell0
          have hcell : wr.cell? (ad.add j) = some (.int .i64 l0[j]) := by
            rw [HBi.out.cell (World.block_lt_of_cell? w _ HCE.out)]
            exact HCE.out
          have hwf := Lib.hid (HWF.out _ (List.getElem_mem hjl0))
          go_wp2_with fail
          refine (put_any _ _ _).mono ?_
          rintro e w2 ⟨v2, rfl, hv2, hb2⟩
          have HB2 := Lib.hid (HBi.out.trans (hb2.mono HBi.out.size))
          have HV2 := Lib.hid hv2
          clear hv2 hb2
          have hcell2 : w2.cell? (ad.add j) = some (.int .i64 l0[j]) := by
            rw [HB2.out.cell (World.block_lt_of_cell? w _ HCE.out)]
            exact HCE.out
          go_wp2_with fail
          refine (rput_any _ _ _ hwf.out).mono ?_
          rintro e w3 ⟨v3, rfl, hv3, hb3⟩
          have HB3 := Lib.hid (HB2.out.trans (hb3.mono HB2.out.size))
          have k1 := run_string_isb0 (P := Try.prog) w3 23 5 9 Try.underlying23 Try.underlying5 Try.underlying9 (HV2.out.bel hb3)
          have k2 := run_string_isb0 (P := Try.prog) w3 23 5 9 Try.underlying23 Try.underlying5 Try.underlying9 hv3
          clear hv3 hb3
          generalize putS l0[j] s = Y at *
          go_wp2_with fail
          go_roundw
          case rel => exact ⟨j + 1, by omega, by go_num, HB3⟩
          case measure => simp [intOf]; omega
        · go_wp2_with fail
          refine (short1 _ _ _ _ HC.out HX.out).mono ?_
          rintro e w' ⟨rfl, rfl⟩
          rw [HN.out]
          go_wp2_with fail
          refine (short1 _ _ _ _ HC.out HX.out).mono ?_
          rintro e w' ⟨rfl, rfl⟩
          rw [HN.out]
          go_wp2_with fail
          refine (row_any _ _ _ _ (HI.out.bel HBi.out) HTL.out).mono ?_
          rintro e w2 ⟨v2, rfl, hv2, hb2⟩
          have HB2 := Lib.hid (HBi.out.trans (hb2.mono HBi.out.size))
          have HV2 := Lib.hid hv2
          clear hv2 hb2
          go_wp2_with fail
          refine (short1 _ _ _ _ HC.out HX.out).mono ?_
          rintro e w' ⟨rfl, rfl⟩
          rw [HN.out]
          go_wp2_with fail
          refine (rrow_any _ _ _ _ (HI.out.bel HB2.out) HTL.out HW.out).mono ?_
          rintro e w3 ⟨v3, rfl, hv3, hb3⟩
          have HB3 := Lib.hid (HB2.out.trans (hb3.mono HB2.out.size))
          have k1 := run_string_isb0 (P := Try.prog) w3 23 5 9 Try.underlying23 Try.underlying5 Try.underlying9 (HV2.out.bel hb3)
          have k2 := run_string_isb0 (P := Try.prog) w3 23 5 9 Try.underlying23 Try.underlying5 Try.underlying9 hv3
          clear hv3 hb3
          generalize rowS s (List.take 20 l0) = Y at *
          go_wp2_with fail
          refine (few1 _ _ _ _ HC2.out HX2.out).mono ?_
          rintro e w' ⟨rfl, rfl⟩
          rw [HM.out]
          go_wp2_with fail
          refine (take_any _ _ _ _ (HIB.out.bel HB3.out)).mono ?_
          rintro e w' ⟨rfl, rfl⟩
          go_wp2_with fail
          refine (few1 _ _ _ _ HC2.out HX2.out).mono ?_
          rintro e w' ⟨rfl, rfl⟩
          rw [HM.out]
          go_wp2_with fail
          refine (rtake_any _ _ _ _ (HIB.out.bel HB3.out)).mono ?_
          rintro e w' ⟨rfl, rfl⟩
          generalize takeS (List.take 40 l2) s = Z at *
          go_wp2_with fail
          go_roundw
          case rel => exact ⟨s + 1, by omega, by omega, by go_num, HB3⟩
          case measure => simp [intOf]; omega
    · go_wp2_with fail
      refine (few1 _ _ _ _ HC2.out HX2.out).mono ?_
      rintro e w' ⟨rfl, rfl⟩
      rw [HM.out]
      go_wp2_with fail
      refine (take_any _ _ _ _ (HIB.out.bel HBr.out)).mono ?_
      rintro e w' ⟨rfl, rfl⟩
      go_wp2_with fail
      refine (few1 _ _ _ _ HC2.out HX2.out).mono ?_
      rintro e w' ⟨rfl, rfl⟩
      rw [HM.out]
      go_wp2_with fail
      refine (rtake_any _ _ _ _ (HIB.out.bel HBr.out)).mono ?_
      rintro e w' ⟨rfl, rfl⟩
      generalize takeS (List.take 40 l2) a1 = Z at *
      go_wp2_with fail
      refine (put_any _ _ _).mono ?_
      rintro e w2 ⟨v2, rfl, hv2, hb2⟩
      have HB2 := Lib.hid (HBr.out.trans (hb2.mono HBr.out.size))
      clear hv2 hb2
      go_wp2_with fail
      refine (rput_any _ _ _ (by decide)).mono ?_
      rintro e w3 ⟨v3, rfl, hv3, hb3⟩
      have HB3 := Lib.hid (HB2.out.trans (hb3.mono HB2.out.size))
      clear hv3 hb3
      generalize putS 7 a1 = Y at *
      go_wp2_with fail
      go_ret
      exact ⟨rfl, HB3.out⟩
end Go.Proofs.Ytnhhpdjcipfdjaa
