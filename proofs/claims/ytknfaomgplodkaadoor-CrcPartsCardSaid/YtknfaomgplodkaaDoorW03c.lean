/- The walks of the laws of package theseuslaw03: CrcParts. -/
import Derived.Test.YtknfaomgplodkaaDoorL03
import Derived.Test.YtknfaomgplodkaaDoorFrame
namespace Go.Proofs.YtknfaomgplodkaaDoor
open Go.RowKit
set_option linter.unusedVariables false
set_option linter.unusedSimpArgs false

set_option maxRecDepth 100000 in
set_option maxHeartbeats 1000000 in
theorem walkCrcParts (a0 : Option Addr) (n0 c0 : Nat) (l0 : List UInt8) (a1 : Option Addr) (n1 c1 : Nat) (l1 : List UInt8) (w : World) (ht : Hid (Tab w)) (w0 : InB w a0 n0 c0 l0) (w1 : InB w a1 n1 c1 l1) :
    Calls Tryd.prog 4 #[.slice a0 n0 c0, .slice a1 n1 c1] w fun e w' => e = .returned (.bool true) ∧ Below w.heap.size w w' := by
  have fw0 := fun (W : World) => few3 a0 n0 c0 W w0.cap w0.max
  have fw1 := fun (W : World) => few3 a1 n1 c1 W w1.cap w1.max
  obtain ⟨hlen0, hcap0, hmax0, hhas0⟩ := w0
  obtain ⟨hlen1, hcap1, hmax1, hhas1⟩ := w1
  have hl0 : (l0.take 100).length = min n0 100 := by rw [List.length_take, hlen0]; omega
  have hl1 : (l1.take 100).length = min n1 100 := by rw [List.length_take, hlen1]; omega
  have hh0 : Has w a0 (vals (l0.take 100)) := by rw [vals_take]; exact Has.take hhas0 100
  have hh1 : Has w a1 (vals (l1.take 100)) := by rw [vals_take]; exact Has.take hhas1 100
  have hc0 : min n0 100 ≤ c0 := by omega
  have hc1 : min n1 100 ≤ c1 := by omega
  have hm0 : min n0 100 ≤ 100 := by omega
  have hm1 : min n1 100 ≤ 100 := by omega
  clear hlen0 hcap0 hhas0 hlen1 hcap1 hhas1
  generalize l0.take 100 = X at *
  generalize l1.take 100 = Y at *
  generalize min n0 100 = m0 at *
  generalize min n1 100 = m1 at *
  have FW0 := Lib.hid fw0
  have FW1 := Lib.hid fw1
  have HL0 := Lib.hid hl0
  have HL1 := Lib.hid hl1
  have HH0 := Lib.hid hh0
  have HH1 := Lib.hid hh1
  have HX0 := Lib.hid hmax0
  have HX1 := Lib.hid hmax1
  have HC0 := Lib.hid hc0
  have HC1 := Lib.hid hc1
  have HI := Lib.hid byte_info
  clear fw0 fw1 hl0 hl1 hh0 hh1 hmax0 hmax1 hc0 hc1
  go_enter Tryd.func4, Tryd.ntmps4
  go_wp2_with fail
  refine (shown3 _ ht).mono ?_
  rintro e w1 ⟨rfl, hb1⟩
  have HB1 := Lib.hid hb1
  clear hb1
  have HOL := Lib.hid (World.ownsRow_lit (e := 5) (size := 1) w1 #[] 0 (Nat.le_refl _) (by decide) rfl)
  go_wp2_with fail
  refine (FW0.out _).mono ?_
  rintro e w' ⟨rfl, rfl⟩
  obtain ⟨i0, hi0, hz0, hz1, hz2⟩ := info_parts HI.out
  have HXL : Hid ((vals X).length = m0) := by show _ = _; rw [vals_length]; exact HL0.out
  have HYL : Hid ((vals Y).length = m1) := by show _ = _; rw [vals_length]; exact HL1.out
  go_wp2_with (at_builtin; refine wpList_append_has _ rfl (.tmp 8) (.tmp 10) _ rfl w1.heap.size 5 i0 (.int .u8 0) 1 Tryd.underlying22 hi0 hz0 hz1 hz2 rfl _ 0 [] rfl HOL.out _ m0 _ (vals X) rfl HXL.out ((HH0.out.bel HB1.out).alloc _) (vals_one _) (by unfold maxLen; omega) (by omega) (by simp only [World.size_alloc]; omega) ?_; intro v2 w2 hown2 hgrow2 _; have HO := Lib.hid hown2; have HG := Lib.hid hgrow2; clear hown2 hgrow2)
  refine (FW1.out _).mono ?_
  rintro e w' ⟨rfl, rfl⟩
  have HB2 : Hid (Below w1.heap.size w1 w2) := ((Below.refl _ _).alloc (Nat.le_refl _) _).grown HG.out (by simp only [World.size_alloc]; omega) (fun q hq => (HOL.out.lt q hq).1)
  have HB3 := Lib.hid (HB1.out.trans (HB2.out.mono HB1.out.size))
  have hm : m0 + m1 ≤ 200 := by omega
  go_wp2_with (at_builtin; refine wpList_append_has _ rfl (.tmp 11) (.tmp 13) _ rfl w1.heap.size 5 i0 (.int .u8 0) 1 Tryd.underlying22 hi0 hz0 hz1 hz2 rfl _ (0 + m0) _ rfl HO.out _ m1 _ (vals Y) rfl HYL.out (HH1.out.bel HB3.out) (vals_one _) (by unfold maxLen; omega) (by omega) HB2.out.size ?_; intro v3 w3 hown3 hgrow3 _; have HO3 := Lib.hid hown3; have HG3 := Lib.hid hgrow3; clear hown3 hgrow3)
  have HB4 : Hid (Below w1.heap.size w1 w3) := HB2.out.grown HG3.out HB2.out.size (fun q hq => (HO.out.lt q hq).1)
  have HB5 := Lib.hid (HB1.out.trans (HB4.out.mono HB1.out.size))
  have HV : Hid (IsB w3 v3 (X ++ Y)) := by
    have h := HO3.out
    rw [List.nil_append, ← vals_append] at h
    exact IsB.of_own h
  have HI0 : Hid (IsB w3 (.slice a0 m0 c0) X) := ⟨_, _, _, rfl, HC0.out, HX0.out, HL0.out, HH0.out.bel HB5.out⟩
  have HI1 : Hid (IsB w3 (.slice a1 m1 c1) Y) := ⟨_, _, _, rfl, HC1.out, HX1.out, HL1.out, HH1.out.bel HB5.out⟩
  have HT3 := Lib.hid (ht.out.bel HB5.out)
  have hs : ((sumN X : Nat) : Int) ≤ 4294967295 := by have := moreN_le 0 X; unfold sumN; omega
  have hz : ((sumN (X ++ Y) : Nat) : Int) ≤ 4294967295 := by have := moreN_le 0 (X ++ Y); unfold sumN; omega
  have HE1 : Hid (moreN (sumN X) Y = sumN (X ++ Y)) := moreN_append 0 X Y
  have HE2 : Hid (moreN 0 (X ++ Y) = sumN (X ++ Y)) := rfl
  have HE3 : Hid (moreN (sumN (X ++ Y)) [] = sumN (X ++ Y)) := moreN_nil _ (by omega)
  clear HO HG HO3 HG3 HB2 HB3 HB4 HOL HXL HYL
  refine (FW0.out _).mono ?_
  rintro e w' ⟨rfl, rfl⟩
  go_wp2_with fail
  refine (sum_any _ _ _ HI0.out HT3).mono ?_
  rintro e w' ⟨rfl, rfl⟩
  go_wp2_with fail
  refine (FW1.out _).mono ?_
  rintro e w' ⟨rfl, rfl⟩
  go_wp2_with fail
  refine (more_any _ _ _ _ hs HI1.out HT3).mono ?_
  rintro e w' ⟨rfl, rfl⟩
  rw [HE1.out]
  go_wp2_with fail
  refine (sum_any _ _ _ HV.out HT3).mono ?_
  rintro e w' ⟨rfl, rfl⟩
  go_wp2_with fail
  refine (more_any 0 _ _ _ (by omega) HV.out HT3).mono ?_
  rintro e w' ⟨rfl, rfl⟩
  rw [HE2.out]
  go_wp2_with fail
  refine (sum_any _ _ _ HV.out HT3).mono ?_
  rintro e w' ⟨rfl, rfl⟩
  go_wp2_with fail
  refine (sum_any _ _ _ HV.out HT3).mono ?_
  rintro e w' ⟨rfl, rfl⟩
  go_wp2_with fail
  refine (more_any _ _ [] _ hz (IsB.nil_ _) HT3).mono ?_
  rintro e w' ⟨rfl, rfl⟩
  rw [HE3.out]
  go_wp2_with fail
  refine (sum_any _ _ _ HV.out HT3).mono ?_
  rintro e w' ⟨rfl, rfl⟩
  go_wp2_with fail
  go_ret
  exact ⟨rfl, HB5.out⟩
end Go.Proofs.YtknfaomgplodkaaDoor
