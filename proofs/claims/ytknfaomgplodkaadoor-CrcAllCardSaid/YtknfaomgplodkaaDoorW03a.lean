/- The walks of the laws of package theseuslaw03: CrcAll, CrcParts. -/
import Derived.Test.YtknfaomgplodkaaDoorL03
import Derived.Test.YtknfaomgplodkaaDoorRef03
import Derived.Test.YtknfaomgplodkaaDoorFrame
namespace Go.Proofs.YtknfaomgplodkaaDoor
open Go.RowKit
set_option linter.unusedVariables false
set_option linter.unusedSimpArgs false

/-- few's answer, of bytes that came in -/
theorem few_isb {w : World} {a : Option Addr} {n c : Nat} {l : List UInt8} (h : InB w a n c l) : IsB w (.slice a (min n 100) c) (l.take 100) := by
  obtain ⟨hlen, hcap, hmax, hhas⟩ := h
  exact ⟨_, _, _, rfl, by omega, hmax, by rw [List.length_take, hlen]; omega, by rw [vals_take]; exact Has.take hhas 100⟩
set_option maxRecDepth 100000 in
set_option maxHeartbeats 1000000 in
theorem walkCrcAll (a0 : Option Addr) (n0 c0 : Nat) (l0 : List UInt8) (a1 a2 : Int) (w : World) (ht : Hid (Tab w)) (w0 : InB w a0 n0 c0 l0) (w1 : (Lit.int .u32 a1).wf = true) (w2 : (Lit.int .u8 a2).wf = true) :
    Calls Tryd.prog 3 #[.slice a0 n0 c0, .int .u32 a1, .int .u8 a2] w fun e w' => e = .returned (.bool true) ∧ Below w.heap.size w w' := by
  obtain ⟨hl1, hh1⟩ := bounds_u32 w1
  obtain ⟨hl2, hh2⟩ := bounds_u8 w2
  obtain ⟨s, rfl⟩ := Int.eq_ofNat_of_zero_le hl1
  obtain ⟨b, rfl⟩ := Int.eq_ofNat_of_zero_le hl2
  have hs : (s : Int) ≤ 4294967295 := by omega
  have hb : (b : Int) ≤ 255 := by omega
  clear w1 w2 hl1 hl2 hh1 hh2
  have HIB := Lib.hid (few_isb w0)
  have HC := Lib.hid w0.cap
  have HX := Lib.hid w0.max
  clear w0
  generalize l0.take 100 = L at *
  obtain ⟨M, hM⟩ : ∃ M, min n0 100 = M := ⟨_, rfl⟩
  rw [hM] at HIB
  have HM := Lib.hid hM
  clear hM
  go_enter Tryd.func3, Tryd.ntmps3
  go_wp2_with fail
  refine (shown3 _ ht).mono ?_
  rintro e w1 ⟨rfl, hb1⟩
  have HB1 := Lib.hid hb1
  have HI1 := Lib.hid (HIB.out.bel hb1)
  have HT1 := Lib.hid (ht.out.bel hb1)
  clear hb1
  have fw := fun (W : World) => few3 a0 n0 c0 W HC.out HX.out
  rw [HM.out] at fw
  have FW := Lib.hid fw
  clear fw
  go_wp2_with (refine (FW.out _).mono ?_; rintro e w' ⟨rfl, rfl⟩)
  refine (sum_any _ _ _ HI1.out HT1).mono ?_
  rintro e w' ⟨rfl, rfl⟩
  go_wp2_with (refine (FW.out _).mono ?_; rintro e w' ⟨rfl, rfl⟩)
  refine (rsum_any _ _ _ HI1.out).mono ?_
  rintro e w' ⟨rfl, rfl⟩
  generalize sumN L = z1 at *
  go_wp2_with (refine (FW.out _).mono ?_; rintro e w' ⟨rfl, rfl⟩)
  refine (more_any _ _ _ _ hs HI1.out HT1).mono ?_
  rintro e w' ⟨rfl, rfl⟩
  go_wp2_with (refine (FW.out _).mono ?_; rintro e w' ⟨rfl, rfl⟩)
  refine (rmore_any _ _ _ _ hs HI1.out).mono ?_
  rintro e w' ⟨rfl, rfl⟩
  generalize moreN s L = z2 at *
  go_wp2_with fail
  refine (step_any _ _ _ hs hb HT1).mono ?_
  rintro e w' ⟨rfl, rfl⟩
  go_wp2_with fail
  refine (rstep_any _ _ _ hs hb).mono ?_
  rintro e w' ⟨rfl, rfl⟩
  generalize stepN s b = z3 at *
  go_wp2_with fail
  go_ret
  exact ⟨rfl, HB1.out⟩
end Go.Proofs.YtknfaomgplodkaaDoor
