/- The walks of the laws of package theseuslaw04: FrameUnlike. -/
import Derived.Test.YtlobajlodbdeiaaDoorL04
import Derived.Test.YtlobajlodbdeiaaDoorFrmT
namespace Go.Proofs.YtlobajlodbdeiaaDoor
open Go.RowKit
set_option linter.unusedVariables false
set_option linter.unusedSimpArgs false

set_option maxRecDepth 100000 in
set_option maxHeartbeats 2000000 in
theorem walkFrameUnlike (a0 : Option Addr) (n0 c0 : Nat) (l0 : List UInt8) (a1 : Option Addr) (n1 c1 : Nat) (l1 : List UInt8) (l2 : List Int) (w : World) (ht : Hid (Tab w)) (w0 : InB w a0 n0 c0 l0) (w1 : InB w a1 n1 c1 l1) (w2 : l2.length = 2 ∧ ∀ x ∈ l2, (Lit.int .u32 x).wf = true) :
    Calls Tryd.prog 8 #[.slice a0 n0 c0, .slice a1 n1 c1, .agg (l2.map (Value.int .u32)).toArray] w fun e w' => e = .returned (.bool true) ∧ Below w.heap.size w w' := by
  obtain ⟨m0, X, hm0, hlx, hmc0, hmx0, HX, FX⟩ := few_pack a0 n0 c0 l0 w w0
  obtain ⟨m1, Y, hm1, hly, hmc1, hmx1, HY, FY⟩ := few_pack a1 n1 c1 l1 w w1
  obtain ⟨hl2, hw2⟩ := w2
  obtain ⟨p0, p1, rfl⟩ : ∃ p0 p1, l2 = [p0, p1] := by
    match l2, hl2 with
    | [a, b], _ => exact ⟨a, b, rfl⟩
  obtain ⟨hp0, hp0'⟩ := bounds_u32 (hw2 p0 (by simp))
  obtain ⟨hp1, hp1'⟩ := bounds_u32 (hw2 p1 (by simp))
  obtain ⟨P, rfl⟩ := Int.eq_ofNat_of_zero_le hp0
  obtain ⟨Q, rfl⟩ := Int.eq_ofNat_of_zero_le hp1
  have hP : (P : Int) ≤ 4294967295 := by omega
  have hQ : (Q : Int) ≤ 4294967295 := by omega
  clear hw2 hl2 w0 w1 hp0 hp1 hp0' hp1'
  have HLX := Lib.hid hlx
  have HLY := Lib.hid hly
  have HMX0 := Lib.hid hmx0
  have HMX1 := Lib.hid hmx1
  clear hlx hly hmx0 hmx1
  obtain ⟨B, hB⟩ : ∃ B, w.heap.size = B := ⟨_, rfl⟩
  have HB := Lib.hid hB
  clear hB
  go_enter Tryd.func8, Tryd.ntmps8
  go_wp2_with fail
  refine (shown4 _).mono ?_
  rintro e w1 ⟨rfl, hb1⟩
  have HB1 : Hid (Below B w w1) := by rw [← HB.out]; exact ((Below.refl _ _).alloc (Nat.le_refl _) _).trans (hb1.mono (by simp))
  have hq0 : w1.cell? ⟨w.heap.size, 0, none⟩ = some (.int .u32 (P : Int)) := by
    rw [hb1.cell (by simp), World.cell?_alloc_mark]
    rfl
  have hq1 : w1.cell? ⟨w.heap.size, 1, none⟩ = some (.int .u32 (Q : Int)) := by
    rw [hb1.cell (by simp), World.cell?_alloc_mark]
    rfl
  clear hb1
  have HB2 : Hid (Below w.heap.size w w1) := by rw [HB.out]; exact HB1.out
  have HT1 := Lib.hid (ht.out.bel HB2.out)
  have HX1 : Hid (IsB w1 (.slice a0 m0 c0) X) := ⟨_, _, _, rfl, hmc0, HMX0.out, HLX.out, HX.out.bel HB2.out⟩
  have HY1 : Hid (IsB w1 (.slice a1 m1 c1) Y) := ⟨_, _, _, rfl, hmc1, HMX1.out, HLY.out, HY.out.bel HB2.out⟩
  have CP1 : Hid (Calls Tryd.prog 17 #[.int .u32 (P : Int), .slice a0 m0 c0] w1.drew fun e w' => ∃ v', e = .returned v' ∧ w'.ownsRow w1.heap.size 5 1 v' (m0 + 8) (vals (frameN P X)) ∧ Below w1.heap.size w1 w') := by
    refine (fput_any P (.slice a0 m0 c0) X w1.drew hP HX1.out (by rw [HLX.out]; omega) (Lib.hid HT1.out)).mono ?_
    rintro e w' ⟨v', rfl, ho, hb⟩
    rw [HLX.out] at ho
    exact ⟨v', rfl, ho, ⟨hb.os, hb.tape, hb.output, hb.size, hb.block⟩⟩
  go_upto_region 2 with fail
  go_cut [8] (fun v wx => Hid (wx.ownsRow w1.heap.size 5 1 v (m0 + 8) (vals (frameN P X))) ∧ Hid (Below w1.heap.size w1 wx))
  case first =>
    go_region_with (first
      | (go_at_call 11; refine (FX.out _).mono ?_; rintro e w' ⟨rfl, rfl⟩)
      | (go_at_call 17; refine CP1.out.mono ?_; rintro e w2 ⟨v2, rfl, ho2, hb2⟩; have HO2 := Lib.hid ho2; have HBB2 := Lib.hid hb2; clear ho2 hb2))
    all_goals
      go_wp2_with fail
      go_meet
      exact ⟨HO2, HBB2⟩
  case rest =>
    obtain ⟨HO2, HBB2⟩ := hcut
    clear CP1
    generalize wc = w2 at *
    have HB3 := Lib.hid (HB2.out.trans (HBB2.out.mono HB2.out.size))
    have hq2 : w2.cell? ⟨w.heap.size, 0, none⟩ = some (.int .u32 (P : Int)) := by
      rw [HBB2.out.cell (World.block_lt_of_cell? w1 _ hq0)]
      exact hq0
    have hq3 : w2.cell? ⟨w.heap.size, 1, none⟩ = some (.int .u32 (Q : Int)) := by
      rw [HBB2.out.cell (World.block_lt_of_cell? w1 _ hq1)]
      exact hq1
    have HT2 := Lib.hid (HT1.out.bel HBB2.out)
    have HX2 := Lib.hid (HX1.out.bel HBB2.out)
    have HY2 := Lib.hid (HY1.out.bel HBB2.out)
    clear hq0 hq1 HX1 HY1 HT1
    have CP2 : Hid (Calls Tryd.prog 17 #[.int .u32 (Q : Int), .slice a1 m1 c1] w2.drew fun e w' => ∃ v', e = .returned v' ∧ IsB w' v' (frameN Q Y) ∧ Below w2.heap.size w2 w') := by
      refine (fput_any Q (.slice a1 m1 c1) Y w2.drew hQ HY2.out (by rw [HLY.out]; omega) (Lib.hid HT2.out)).mono ?_
      rintro e w' ⟨v', rfl, ho, hb⟩
      exact ⟨v', rfl, IsB.of_own ho, ⟨hb.os, hb.tape, hb.output, hb.size, hb.block⟩⟩
    obtain ⟨A8, c8, rfl, hkc8, hcm8, hcl8, hcA8⟩ := Sl.of_own HO2.out
    have HF0 : Hid (IsB w2 (.slice A8 (m0 + 8) c8) (frameN P X)) := ⟨_, _, _, rfl, hkc8, hcm8, by rw [frameN_length, HLX.out], hcA8⟩
    clear HO2 hkc8 hcm8 hcl8 hcA8
    go_upto_region 3 with fail
    go_cut [9] (fun v wx => Hid (IsB wx v (frameN Q Y)) ∧ Hid (Below w2.heap.size w2 wx))
    case first =>
      go_region_with (first
        | (go_at_call 11; refine (FY.out _).mono ?_; rintro e w' ⟨rfl, rfl⟩)
        | (go_at_call 17; refine CP2.out.mono ?_; rintro e w3 ⟨v3, rfl, ho2, hb2⟩; have HO2 := Lib.hid ho2; have HBB3 := Lib.hid hb2; clear ho2 hb2))
      all_goals
        go_wp2_with fail
        go_meet
        exact ⟨HO2, HBB3⟩
    case rest =>
      obtain ⟨HF1, HBB3⟩ := hcut
      generalize wc = w3 at *
      have HB4 := Lib.hid (HB3.out.trans (HBB3.out.mono HB3.out.size))
      have hq4 : w3.cell? ⟨w.heap.size, 0, none⟩ = some (.int .u32 (P : Int)) := by
        rw [HBB3.out.cell (World.block_lt_of_cell? w2 _ hq2)]
        exact hq2
      have hq5 : w3.cell? ⟨w.heap.size, 1, none⟩ = some (.int .u32 (Q : Int)) := by
        rw [HBB3.out.cell (World.block_lt_of_cell? w2 _ hq3)]
        exact hq3
      have HX3 := Lib.hid (HX2.out.bel HBB3.out)
      have HY3 := Lib.hid (HY2.out.bel HBB3.out)
      have HF0' := Lib.hid (HF0.out.bel HBB3.out)
      have QX := quiet_few FX w3
      have QY := quiet_few FY w3
      have s1 := run_string_isb (P := Tryd.prog) w3 22 5 9 Tryd.underlying22 Tryd.underlying5 Tryd.underlying9 HF0'.out
      have s2 := run_string_isb (P := Tryd.prog) w3 22 5 9 Tryd.underlying22 Tryd.underlying5 Tryd.underlying9 HF1.out
      have s3 := run_string_isb (P := Tryd.prog) w3 22 5 9 Tryd.underlying22 Tryd.underlying5 Tryd.underlying9 HX3.out
      have s4 := run_string_isb (P := Tryd.prog) w3 22 5 9 Tryd.underlying22 Tryd.underlying5 Tryd.underlying9 HY3.out
      clear hq2 hq3 HX2 HY2 HF0 HT2 CP2 HBB3 HBB2 HB3 HB2 HB1 HB HX3 HY3 HF0' HF1 FX FY HX HY ht
      by_cases hPQ : P = Q
      · subst hPQ
        have hself : ((P : Int) == (P : Int)) = true := beq_self_eq_true _
        have hfr : (frameN P X == frameN P Y) = (X == Y) := by
          rw [Bool.eq_iff_iff, beq_iff_eq, beq_iff_eq, frame_inj P P X Y (by omega) (by omega)]
          simp
        generalize frameN P X = F0 at *
        generalize frameN P Y = F1 at *
        go_wp2_with fail
        go_quiet ((go_at_call 11; (first | (with_reducible exact Calls.quiet_of_same (QX.out _)) | (with_reducible exact Calls.quiet_of_same (QY.out _)))))
        go_wp2
        go_ret
        exact ⟨rfl, drewN_below HB4.out _⟩
      · have hself : ((P : Int) == (Q : Int)) = false := by rw [beq_eq_false_iff_ne]; omega
        have hfr : (frameN P X == frameN Q Y) = false := by
          rw [beq_eq_false_iff_ne]
          intro h
          exact hPQ ((frame_inj P Q X Y (by omega) (by omega)).1 h).1
        generalize frameN P X = F0 at *
        generalize frameN Q Y = F1 at *
        clear hPQ
        go_wp2_with fail
        go_quiet ((go_at_call 11; (first | (with_reducible exact Calls.quiet_of_same (QX.out _)) | (with_reducible exact Calls.quiet_of_same (QY.out _)))))
        go_wp2
        go_ret
        exact ⟨rfl, drewN_below HB4.out _⟩
end Go.Proofs.YtlobajlodbdeiaaDoor
