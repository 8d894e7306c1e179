/- The walks of the laws of package theseuslaw04: FrameTaken. -/
import Derived.Test.YtlobajlodbdeiaaDoorL04
import Derived.Test.YtlobajlodbdeiaaDoorFrmT
namespace Go.Proofs.YtlobajlodbdeiaaDoor
open Go.RowKit
set_option linter.unusedVariables false
set_option linter.unusedSimpArgs false
attribute [local go_sem ↓] sliced_cut
attribute [local go_sem] cutA_zero

theorem take_pack (M : Nat) (X : List UInt8) (hM : (M : Int) ≤ 4294967295) :
    ∃ T E, takeF M X = (T, E) ∧ (E = 0 → frameN M T = X) := by
  refine ⟨(takeF M X).1, (takeF M X).2, rfl, fun h => taken_frame M X h⟩
theorem fits_iff (M : Nat) (X : List UInt8) (hM : (M : Int) ≤ 4294967295) (h : 4 ≤ X.length) : X.take 4 = be 4 M ↔ val (X.take 4) = M := by
  constructor
  · intro h1
    rw [h1]
    exact val_be_lt 4 M (by omega)
  · intro h1
    have h2 := be_val (X.take 4)
    rw [List.length_take, Nat.min_eq_left h, h1] at h2
    exact h2.symm
set_option maxRecDepth 100000 in
set_option maxHeartbeats 2000000 in
theorem walkFrameTaken (a0 : Option Addr) (n0 c0 : Nat) (l0 : List UInt8) (a1 : Int) (w : World) (ht : Hid (Tab w)) (w0 : InB w a0 n0 c0 l0) (w1 : (Lit.int .u32 a1).wf = true) :
    Calls Tryd.prog 6 #[.slice a0 n0 c0, .int .u32 a1] w fun e w' => e = .returned (.bool true) ∧ Below w.heap.size w w' := by
  obtain ⟨m, X, hm, hlx, hmc, hmx, HX, FX⟩ := few_pack a0 n0 c0 l0 w w0
  obtain ⟨ha0, ha1⟩ := bounds_u32 w1
  obtain ⟨M, rfl⟩ := Int.eq_ofNat_of_zero_le ha0
  have hM : (M : Int) ≤ 4294967295 := by omega
  clear ha0 ha1 w0 w1
  have HLX := Lib.hid hlx
  have HMX := Lib.hid hmx
  obtain ⟨T, E, htf, hE0⟩ := take_pack M X hM
  have HTF := Lib.hid htf
  have HE0 := Lib.hid hE0
  clear htf hE0 hlx hmx
  have HS := Lib.hid (take_sealed M X)
  go_enter Tryd.func6, Tryd.ntmps6
  go_wp2_with fail
  refine (shown4 _).mono ?_
  rintro e w1 ⟨rfl, hb1⟩
  have HB1 := Lib.hid hb1
  have HT1 := Lib.hid (ht.out.bel hb1)
  have HX1 : Hid (IsB w1 (.slice a0 m c0) X) := ⟨_, _, _, rfl, hmc, HMX.out, HLX.out, HX.out.bel hb1⟩
  clear hb1 HX ht
  go_wp2_with fail
  refine (FX.out _).mono ?_
  rintro e w' ⟨rfl, rfl⟩
  go_wp2_with fail
  refine (ftake_any M _ X _ hM HX1.out (by rw [HLX.out]; omega) HT1).mono ?_
  rintro e w2 ⟨v2, rfl, hv2, hb2⟩
  rw [HTF.out] at hv2 ⊢
  have HV2 := Lib.hid hv2
  have HB2 := Lib.hid (HB1.out.trans (hb2.mono HB1.out.size))
  have HT2 := Lib.hid (HT1.out.bel hb2)
  have HX2 := Lib.hid (HX1.out.bel hb2)
  clear hv2 hb2 HB1 HX1 HT1 HTF FX
  go_upto_region 4 with fail
  go_cut [36] (fun v wx => v = .bool false ∧ Hid (Below w2.heap.size w2 wx))
  case first =>
    by_cases hE : E = 0
    · subst hE
      have CP : Hid (Calls Tryd.prog 17 #[.int .u32 (M : Int), v2] w2.drew fun e w' => ∃ v', e = .returned v' ∧ IsB w' v' X ∧ Below w2.heap.size w2 w') := by
        refine (fput_any M v2 T w2.drew hM HV2.out (by have := congrArg List.length (HE0.out rfl); rw [frameN_length, HLX.out] at this; omega) (Lib.hid HT2.out)).mono ?_
        rintro e w' ⟨v', rfl, ho, hb⟩
        rw [HE0.out rfl] at ho
        exact ⟨v', rfl, IsB.of_own ho, ⟨hb.os, hb.tape, hb.output, hb.size, hb.block⟩⟩
      have sw := str_in (w := w2.drew) HX2.out
      go_region_with (go_at_call 17; refine CP.out.mono ?_; rintro e w3 ⟨v3, rfl, hv3, hb3⟩; have sx := str_in hv3; have sw3 := str_in (HX2.out.bel hb3); have HB3 := Lib.hid hb3; clear hv3 hb3)
      all_goals
        go_wp2_with fail
        go_meet
        exact ⟨by simp, HB3⟩
    · have hne : (E == 0) = false := by rw [beq_eq_false_iff_ne]; exact hE
      clear hE
      go_quiet (fail)
      go_wp2_with fail
      go_meet
      exact ⟨rfl, drewN_below (Below.refl _ _) _⟩
  case rest =>
    obtain ⟨rfl, HB3⟩ := hcut
    generalize wc = w3 at *
    have HBW := Lib.hid (HB2.out.trans (HB3.out.mono HB2.out.size))
    have HX3 := Lib.hid (HX2.out.bel HB3.out)
    have HT3 := Lib.hid (HT2.out.bel HB3.out)
    clear HB3 HB2 HX2 HT2 HV2 HE0
    go_wp2_with fail
    refine (sum_any _ X _ HX3.out HT3).mono ?_
    rintro e w' ⟨rfl, rfl⟩
    have hs : ((sumN X : Nat) : Int) ≤ 4294967295 := by have := sumN_le X; omega
    have PS : Hid (∀ W, Calls Tryd.prog 19 #[.int .i64 ((sumN X : Nat) : Int), .int .i64 4] W fun e w' => e = .returned (.tuple #[.slice (some ⟨W.heap.size, 0, none⟩) 4 4, .int .i64 0]) ∧ w' = W.alloc (.cells (vals (be 4 (sumN X))).toArray 5)) :=
      fun W => (put_ok ((sumN X : Nat) : Int) 4 W (by omega) (by omega) (by omega) (by simp; omega)).mono fun e w' ⟨h1, h2⟩ => ⟨h1, h2.symm⟩
    go_wp2_with fail
    refine (PS.out w3).mono ?_
    rintro e w' ⟨rfl, rfl⟩
    have HN := Lib.hid (Has.new w3 (vals (be 4 (sumN X))) 5 (0, 0))
    have HNL : Hid ((vals (be 4 (sumN X))).length = 4) := by show _ = _; rw [vals_length, be_length]
    have HXL : Hid ((vals X).length = m) := by show _ = _; rw [vals_length]; exact HLX.out
    have HB4 := Lib.hid (HBW.out.alloc HBW.out.size (.cells (vals (be 4 (sumN X))).toArray 5))
    have HX4 : Hid (IsB (w3.alloc (.cells (vals (be 4 (sumN X))).toArray 5)) (.slice a0 m c0) X) := HX3.out.bel ((Below.refl _ _).alloc (Nat.le_refl _) _)
    have HT4 : Hid (Tab (w3.alloc (.cells (vals (be 4 (sumN X))).toArray 5))) := HT3.out.bel ((Below.refl _ _).alloc (Nat.le_refl _) _)
    generalize w3.alloc (.cells (vals (be 4 (sumN X))).toArray 5) = w4 at *
    have HOL := Lib.hid (World.ownsRow_lit (e := 5) (size := 1) w4 #[] 0 (Nat.le_refl _) (by decide) rfl)
    have HA4 : Hid (Has w4 a0 (vals X)) := by
      obtain ⟨A, n, c, h1, _, _, _, h5⟩ := HX4.out
      injection h1 with h1
      subst h1
      exact h5
    obtain ⟨i0, hi0, hz0, hz1, hz2⟩ := info_parts byte_info
    go_upto_region 7 with fail
    go_wp2_with (first
      | (at_builtin; refine wpList_append_has _ rfl (.tmp 44) (.tmp 45) _ rfl w4.heap.size 5 i0 (.int .u8 0) 1 Tryd.underlying22 hi0 hz0 hz1 hz2 rfl (.slice (some ⟨w4.heap.size, 0, none⟩) 0 0) 0 [] rfl HOL.out a0 m c0 (vals X) rfl HXL.out (HA4.out.alloc _) (vals_one _) (by unfold maxLen; omega) (by omega) (by simp only [World.size_alloc]; omega) ?_; intro v5 w5 hown5 hgrow5 _; have HO5 := Lib.hid hown5; have HB5 : Hid (Below w4.heap.size w4 w5) := ((Below.refl _ _).alloc (Nat.le_refl _) _).grown hgrow5 (by simp) (fun q hq => (HOL.out.lt q hq).1); have HN5 := Lib.hid (HN.out.bel HB5.out); have HS5 := Lib.hid HB5.out.size; clear hown5 hgrow5)
      | (at_builtin; refine wpList_append_has _ rfl (.tmp 46) (.tmp 47) _ rfl w4.heap.size 5 i0 (.int .u8 0) 1 Tryd.underlying22 hi0 hz0 hz1 hz2 rfl v5 (0 + m) _ rfl HO5.out _ 4 4 (vals (be 4 (sumN X))) rfl HNL.out HN5.out (vals_one _) (by unfold maxLen; omega) (by omega) HS5.out ?_; intro v6 w6 hown6 hgrow6 _; have HO6 := Lib.hid hown6; have HB6 : Hid (Below w4.heap.size w4 w6) := HB5.out.grown hgrow6 HS5.out (fun q hq => (HO5.out.lt q hq).1); clear hown6 hgrow6))
    have HV6 : Hid (IsB w6 v6 (sealN X)) := by
      have h := HO6.out
      rw [List.nil_append, ← vals_append] at h
      exact IsB.of_own h
    have HB7 := Lib.hid (HB4.out.trans (HB6.out.mono HB4.out.size))
    have HX6 := Lib.hid (HX4.out.bel HB6.out)
    have HT6 := Lib.hid (HT4.out.bel HB6.out)
    clear HO6 HB6 HO5 HB5 HN5 HS5 HOL HA4 HN HB4 HX4 HT4 HX3 HT3 HBW PS hi0 hz0 hz1 hz2
    refine (ftake_any M v6 (sealN X) w6 hM HV6.out (by rw [sealN_length, HLX.out]; omega) HT6).mono ?_
    rintro e w7 ⟨v7, rfl, hv7, hb7⟩
    have HB8 := Lib.hid (HB7.out.trans (hb7.mono HB7.out.size))
    have HX7 := Lib.hid (HX6.out.bel hb7)
    have HV7 := Lib.hid hv7
    clear hv7 hb7 HX6 HT6 HV6 HB7
    by_cases h4 : m < 4
    · have hs4 : takeF M (sealN X) = ([], 2) := by rw [HS.out, if_pos (by rw [HLX.out]; exact h4)]
      have ht4 : takeS X 4 = (0, 2) := by rw [takeS, if_pos (by omega), if_pos (by rw [HLX.out]; omega)]
      have HT4 := Lib.hid ht4
      rw [hs4] at HV7 ⊢
      obtain ⟨A7, n7, c7, rfl, _, _, hl7, _⟩ := HV7.out
      simp only [List.length_nil] at hl7
      subst hl7
      clear hs4 ht4 HS HV7
      have hd4 : decide ((m : Int) < 4) = true := decide_eq_true (by omega)
      go_wp2_with fail
      refine (take_any _ X 4 w7 HX7.out).mono ?_
      rintro e w' ⟨rfl, rfl⟩
      rw [HT4.out]
      go_wp2_with fail
      go_ret
      exact ⟨rfl, HB8.out⟩
    · have ht4 : takeS X 4 = ((val (X.take 4) : Int), 0) := by
        rw [takeS, if_pos (by omega), if_neg (by rw [HLX.out]; omega)]
        rfl
      have HT4 := Lib.hid ht4
      have hm4 : (4 : Int) ≤ (m : Int) := by omega
      have hd4 : decide ((m : Int) < 4) = false := decide_eq_false (by omega)
      have hF := fits_iff M X hM (by rw [HLX.out]; omega)
      have hw4 : IsB w7 (.slice (cutA a0 c0 4 1) (m - 4) (c0 - 4)) (X.drop 4) := by
        obtain ⟨A, n, c, h1, h2, h3, h4', h5⟩ := HX7.out
        injection h1 with e1 e2 e3
        subst e1 e2 e3
        refine ⟨_, _, _, rfl, by omega, by unfold maxLen at *; omega, by rw [List.length_drop, h4'], ?_⟩
        rw [vals_drop]
        exact h5.cutA (by rw [vals_length, h4']; exact h2)
      have sw := str_at hw4
      by_cases hf : X.take 4 = be 4 M
      · have hs4 : takeF M (sealN X) = (X.drop 4, 0) := by rw [HS.out, if_neg (by rw [HLX.out]; omega), if_neg (by simp [hf])]
        have hval : ((val (X.take 4) : Nat) : Int) = (M : Int) := by rw [hF.1 hf]
        rw [hval] at HT4
        rw [hs4] at HV7 ⊢
        have sy := str_at HV7.out
        clear hs4 ht4 HS HV7 hw4 hF hf hval h4
        go_wp2_with fail
        refine (take_any _ X 4 w7 HX7.out).mono ?_
        rintro e w' ⟨rfl, rfl⟩
        rw [HT4.out]
        go_wp2_with fail
        go_quiet (fail)
        go_wp2_with fail
        go_ret
        exact ⟨rfl, drewN_below HB8.out _⟩
      · have hs4 : takeF M (sealN X) = ([], 5) := by rw [HS.out, if_neg (by rw [HLX.out]; omega), if_pos hf]
        have hval : (((val (X.take 4) : Nat) : Int) == (M : Int)) = false := by
          rw [beq_eq_false_iff_ne]
          intro h
          exact hf (hF.2 (by omega))
        generalize val (X.take 4) = V at *
        rw [hs4] at HV7 ⊢
        clear hs4 ht4 HS HV7 hw4 hF hf h4
        go_wp2_with fail
        refine (take_any _ X 4 w7 HX7.out).mono ?_
        rintro e w' ⟨rfl, rfl⟩
        rw [HT4.out]
        go_wp2_with fail
        go_quiet (fail)
        go_wp2_with fail
        go_ret
        exact ⟨rfl, drewN_below HB8.out _⟩
end Go.Proofs.YtlobajlodbdeiaaDoor
