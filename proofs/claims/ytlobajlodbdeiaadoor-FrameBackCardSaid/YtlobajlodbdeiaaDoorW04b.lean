/- The walks of the laws of package theseuslaw04: FrameBack. -/
import Derived.Test.YtlobajlodbdeiaaDoorL04
import Derived.Test.YtlobajlodbdeiaaDoorFrmT
import Derived.Deep.DeepCutAuto
import Derived.Deep.RegionHeld3
import Derived.Laws.BitsAllLaws
namespace Go.Proofs.YtlobajlodbdeiaaDoor
open Go.RowKit
set_option linter.unusedVariables false
set_option linter.unusedSimpArgs false
attribute [local go_sem ↓] sliced_cut
attribute [local go_sem] cutA_zero

theorem byte_of (P : Nat) : (P : Int) % 256 = ((UInt8.ofNat P).toNat : Int) := by rw [toNat_ofNat_mod]; omega
theorem tag_up (c : UInt8) : ((c.toNat : Int) + 1) % 256 = ((c + 1).toNat : Int) ∧ c ≠ c + 1 := by
  have h : ∀ x : Fin 256, (((UInt8.ofNat x.val).toNat : Int) + 1) % 256 = ((UInt8.ofNat x.val + 1).toNat : Int) ∧ UInt8.ofNat x.val ≠ UInt8.ofNat x.val + 1 := by decide +kernel
  have := h ⟨c.toNat, c.toNat_lt⟩
  rw [show UInt8.ofNat c.toNat = c from UInt8.ofNat_toNat] at this
  exact this
set_option maxRecDepth 100000 in
set_option maxHeartbeats 4000000 in
theorem walkFrameBack (a0 : Option Addr) (n0 c0 : Nat) (l0 : List UInt8) (a1 : Option Addr) (n1 c1 : Nat) (l1 : List UInt8) (l2 : List Int) (w : World) (ht : Hid (Tab w)) (w0 : InB w a0 n0 c0 l0) (w1 : InB w a1 n1 c1 l1) (w2 : l2.length = 2 ∧ ∀ x ∈ l2, (Lit.int .u32 x).wf = true) :
    Calls Tryd.prog 4 #[.slice a0 n0 c0, .slice a1 n1 c1, .agg (l2.map (Value.int .u32)).toArray] w fun e w' => e = .returned (.bool true) ∧ Below w.heap.size w w' := by
  obtain ⟨m0, X, hm0, hlx, hmc0, hmx0, HX, FX⟩ := few_pack a0 n0 c0 l0 w w0
  obtain ⟨m1, Y, hm1, hly, hmc1, hmx1, HY, FY⟩ := few_pack a1 n1 c1 l1 w w1
  obtain ⟨hl2, hw2⟩ := w2
  obtain ⟨p0, p1, rfl⟩ : ∃ p0 p1, l2 = [p0, p1] := by
    match l2, hl2 with
    | [a, b], _ => exact ⟨a, b, rfl⟩
  obtain ⟨hp0, hp0'⟩ := bounds_u32 (hw2 p0 (by simp))
  obtain ⟨hp1, hp1'⟩ := bounds_u32 (hw2 p1 (by simp))
  obtain ⟨P, rfl⟩ := Int.eq_ofNat_of_zero_le hp0
  obtain ⟨Q, rfl⟩ := Int.eq_ofNat_of_zero_le hp1
  have hP : (P : Int) ≤ 4294967295 := by omega
  have hQ : (Q : Int) ≤ 4294967295 := by omega
  clear hw2 hl2 w0 w1 hp0 hp1 hp0' hp1'
  have HLX := Lib.hid hlx
  have HLY := Lib.hid hly
  have HMX0 := Lib.hid hmx0
  have HMX1 := Lib.hid hmx1
  clear hlx hly hmx0 hmx1
  have HTP : Hid (takeF P (frameN P X) = (X, 0)) := take_frame P X
  obtain ⟨T, fc, htq, hfc⟩ : ∃ (T : List UInt8) (fc : Int), takeF Q (frameN P X) = (T, fc) ∧ (P = Q ∧ fc = 0 ∨ P ≠ Q ∧ fc = 5) := by
    by_cases h : P = Q
    · subst h
      exact ⟨X, 0, take_frame P X, .inl ⟨rfl, rfl⟩⟩
    · exact ⟨[], 5, take_other P Q X (by omega) (by omega) h, .inr ⟨h, rfl⟩⟩
  have HTQ := Lib.hid htq
  have HFC := Lib.hid hfc
  clear htq hfc
  obtain ⟨F, hF⟩ : ∃ F, frameN P X = F := ⟨_, rfl⟩
  have HFL : Hid (F.length = m0 + 8) := by show _ = _; rw [← hF, frameN_length, HLX.out]
  rw [hF] at HTP HTQ
  have HF := Lib.hid hF
  clear hF
  obtain ⟨C, hC⟩ : ∃ C, C = UInt8.ofNat P := ⟨_, rfl⟩
  have HC : Hid ((P : Int) % 256 = (C.toNat : Int)) := by show _ = _; rw [hC]; exact byte_of P
  have HC2 : Hid (IntKind.u8.wrap (P : Int) = (C.toNat : Int)) := by show _ = _; rw [IntKind.wrap_u8']; exact HC.out
  have HC3 : Hid (((P : Int) + 1) % 256 = ((C + 1).toNat : Int)) := by show _ = _; rw [← (tag_up C).1, ← HC.out]; omega
  clear hC
  obtain ⟨S, hS⟩ : ∃ S, C :: (grp X.length ++ X) = S := ⟨_, rfl⟩
  have hx2 : X.length ≤ 268435455 := by rw [HLX.out]; omega
  have HSX : Hid (sectF C X = (S, 0)) := by show _ = _; rw [← hS, sectF, if_pos hx2]
  have HOX : Hid (∀ r, openF C (S ++ r) = (X, r, 0)) := fun r => by rw [← hS]; exact open_sect C X r hx2
  have HOO : Hid (openF (C + 1) S = ([], [], 3)) := by show _ = _; rw [← hS]; exact open_other C (C + 1) _ (tag_up C).2
  have HOB : Hid (∀ k, k < S.length → openF C (S.take k) = ([], [], 2)) := fun k hk => by
    rw [← hS] at hk ⊢
    exact open_begin C X hx2 k hk
  obtain ⟨s, hs, hsb⟩ : ∃ s, S.length = s ∧ s ≤ 160 := ⟨_, rfl, by rw [← hS, List.length_cons, List.length_append, grp_length, HLX.out]; have := gsize_pos m0; omega⟩
  have HS := Lib.hid hs
  clear hS hx2 hs
  go_enter Tryd.func4, Tryd.ntmps4
  go_wp2_with fail
  refine (shown4 _).mono ?_
  rintro e w1 ⟨rfl, hb1⟩
  have HB1 : Hid (Below w.heap.size w w1) := ((Below.refl _ _).alloc (Nat.le_refl _) _).trans (hb1.mono (by simp))
  have hq0 : w1.cell? ⟨w.heap.size, 0, none⟩ = some (.int .u32 (P : Int)) := by
    rw [hb1.cell (by simp), World.cell?_alloc_mark]
    rfl
  have hq1 : w1.cell? ⟨w.heap.size, 1, none⟩ = some (.int .u32 (Q : Int)) := by
    rw [hb1.cell (by simp), World.cell?_alloc_mark]
    rfl
  have HZ : Hid (w.heap.size < w1.heap.size) := by
    have := hb1.size
    simp only [World.size_alloc] at this
    exact this
  have HQ : Hid (∀ wx, Below w1.heap.size w1 wx → wx.cell? ⟨w.heap.size, 0, none⟩ = some (.int .u32 (P : Int)) ∧ wx.cell? ⟨w.heap.size, 1, none⟩ = some (.int .u32 (Q : Int))) := fun wx hb =>
    ⟨by rw [hb.cell HZ.out]; exact hq0, by rw [hb.cell HZ.out]; exact hq1⟩
  have HT1 := Lib.hid (ht.out.bel HB1.out)
  have HX1 : Hid (IsB w1 (.slice a0 m0 c0) X) := ⟨_, _, _, rfl, hmc0, HMX0.out, HLX.out, HX.out.bel HB1.out⟩
  have HY1 : Hid (Has w1 a1 (vals Y)) := HY.out.bel HB1.out
  clear hb1 HX HY ht
  go_wp2_with fail
  refine (FX.out _).mono ?_
  rintro e w' ⟨rfl, rfl⟩
  go_wp2_with fail
  refine (fput_any P _ X _ hP HX1.out (by rw [HLX.out]; omega) HT1).mono ?_
  rintro e w2 ⟨v2, rfl, ho2, hb2⟩
  rw [HF.out, HLX.out] at ho2
  obtain ⟨A2, c2, rfl, hkc2, hcm2, hcl2, hcA2⟩ := Sl.of_own ho2
  have HV2 : Hid (IsB w2 (.slice A2 (m0 + 8) c2) F) := IsB.of_own ho2
  have HBF2 : Hid (Below w1.heap.size w1 w2) := hb2
  have hq2 := (HQ.out w2 hb2).1
  have HT2 := Lib.hid (HT1.out.bel hb2)
  clear ho2 hb2 hkc2 hcm2 hcl2 hcA2 hq0 hq1 HT1
  go_wp2_with fail
  refine (ftake_any P _ F _ hP HV2.out (by rw [HFL.out]; omega) HT2).mono ?_
  rintro e w3 ⟨v3, rfl, hv3, hb3⟩
  rw [HTP.out] at hv3 ⊢
  have HV3 := Lib.hid hv3
  have HBF3 := Lib.hid (HBF2.out.trans (hb3.mono HBF2.out.size))
  have HVF3 := Lib.hid (HV2.out.bel hb3)
  have HT3 := Lib.hid (HT2.out.bel hb3)
  have hq3 := (HQ.out w3 HBF3.out).2
  clear hv3 hb3 HV2 HT2 HTP hq2 HBF2
  go_wp2_with fail
  refine (ftake_any Q _ F _ hQ HVF3.out (by rw [HFL.out]; omega) HT3).mono ?_
  rintro e w4 ⟨v4, rfl, hv4, hb4⟩
  rw [HTQ.out]
  have HBF4 := Lib.hid (HBF3.out.trans (hb4.mono HBF3.out.size))
  have HX4 := Lib.hid (HX1.out.bel HBF4.out)
  have HR4 := Lib.hid (HV3.out.bel hb4)
  have hq4 := (HQ.out w4 HBF4.out).1
  clear hv4 hb4 HV3 HT3 HTQ hq3 HBF3 HVF3
  go_wp2_with fail
  rw [HC.out]
  refine (section_any C _ X _ HX4.out (by rw [HLX.out]; omega)).mono ?_
  rintro e w5 ⟨v5, rfl, hv5, hb5⟩
  rw [HSX.out] at hv5 ⊢
  have HBF5 := Lib.hid (HBF4.out.trans (hb5.mono HBF4.out.size))
  have HX5 := Lib.hid (HX4.out.bel hb5)
  have HR5 := Lib.hid (HR4.out.bel hb5)
  have HY5 : Hid (Has w5 a1 (vals Y)) := HY1.out.bel HBF5.out
  have hq5 := (HQ.out w5 HBF5.out).1
  obtain ⟨A5, n5, c5, rfl, hnc5, hcm5, hln5, hcA5⟩ := hv5
  obtain rfl : s = n5 := by rw [← hln5]; exact HS.out.symm
  have HS5 : Hid (Has w5 A5 (vals S)) := hcA5
  have HCM5 := Lib.hid hcm5
  clear hcm5 hln5 hcA5 hb5 HX4 HR4 hq4 HBF4 HSX
  have HOL := Lib.hid (World.ownsRow_lit (e := 5) (size := 1) w5 #[] 0 (Nat.le_refl _) (by decide) rfl)
  have HSL : Hid ((vals S).length = s) := by show _ = _; rw [vals_length]; exact HS.out
  have HYL : Hid ((vals Y).length = m1) := by show _ = _; rw [vals_length]; exact HLY.out
  go_upto_region 7 with fail
  obtain ⟨i0, hi0, hz0, hz1, hz2⟩ := info_parts byte_info
  go_cut [16, 17, 18] (fun a b c wx => Hid (IsB wx a X) ∧ Hid (IsB wx b Y) ∧ c = .int .i64 0 ∧ Hid (Below w5.heap.size w5 wx))
  case first =>
    go_region_held3 (fun w' => w'.cell? ⟨w.heap.size, 0, none⟩ = some (.int .u32 (P : Int)))
      (first | go_keep | exact (HQ.out _ HBF8.out).1 | exact (HQ.out _ HBF7.out).1 | exact (HQ.out _ HBF6.out).1)
      (first
        | (refine step_append_has _ (by rfl) (.tmp 59) (.tmp 60) _ (by rfl) w5.heap.size 5 i0 (.int .u8 0) 1 Tryd.underlying22 hi0 hz0 hz1 hz2 rfl (.slice (some ⟨w5.heap.size, 0, none⟩) 0 0) 0 [] (by rfl) HOL.out.drew A5 s c5 (vals S) (by rfl) HSL.out (HS5.out.alloc _).drew (vals_one _) (by unfold maxLen; omega) (by omega) (by simp) ?_; intro v6 w6 hown6 hgrow6 hat6; have HO6 := Lib.hid hown6; have HB6 : Hid (Below w5.heap.size w5 w6) := ((Below.refl _ _).alloc (Nat.le_refl _) _).drew.grown hgrow6 (by simp) (fun q hq => (HOL.out.lt q hq).1); have HBF6 := Lib.hid (HBF5.out.trans (HB6.out.mono HBF5.out.size)); have HY6 : Hid (Has w6 a1 (vals Y)) := HY5.out.bel HB6.out; have HSZ6 := Lib.hid HB6.out.size; clear hown6 hgrow6 hat6)
        | (refine step_append_has _ (by rfl) (.tmp 61) (.tmp 63) _ (by rfl) w5.heap.size 5 i0 (.int .u8 0) 1 Tryd.underlying22 hi0 hz0 hz1 hz2 rfl v6 (0 + s) _ (by rfl) HO6.out a1 m1 c1 (vals Y) (by rfl) HYL.out HY6.out (vals_one _) (by unfold maxLen; omega) (by omega) HSZ6.out ?_; intro v7 w7 hown7 hgrow7 hat7; have HV7 : Hid (IsB w7 v7 (S ++ Y)) := IsB.of_own (by have h := hown7; rw [List.nil_append, ← vals_append] at h; exact h); have HB7 : Hid (Below w5.heap.size w5 w7) := HB6.out.grown hgrow7 HSZ6.out (fun q hq => (HO6.out.lt q hq).1); have HBF7 := Lib.hid (HBF5.out.trans (HB7.out.mono HBF5.out.size)); clear hown7 hgrow7 hat7)
        | (go_simp; go_at_call 11; refine (FY.out _).mono ?_; rintro e w' ⟨rfl, rfl⟩)
        | (go_simp; go_at_call 15; rw [HC2.out]; refine (open_any C v7 (S ++ Y) w7 HV7.out (by rw [List.length_append, HS.out, HLY.out]; omega)).mono ?_; rintro e w8 ⟨x8, y8, rfl, hx8, hy8, hb8⟩; rw [HOX.out Y] at hx8 hy8 ⊢; have HX8 := Lib.hid hx8; have HY8 := Lib.hid hy8; have HB8 := Lib.hid (HB7.out.trans (hb8.mono HB7.out.size)); have HBF8 := Lib.hid (HBF5.out.trans (HB8.out.mono HBF5.out.size)); clear hx8 hy8 hb8))
    all_goals
      go_wp2_with fail
      go_meet
      exact ⟨HX8, HY8, rfl, HB8⟩
  case rest =>
    obtain ⟨HI8, HR8, rfl, HB8⟩ := hcut
    generalize wc = w8 at *
    have HBF8 := Lib.hid (HBF5.out.trans (HB8.out.mono HBF5.out.size))
    have hq8 := (HQ.out w8 HBF8.out).1
    have HSS : Hid (∀ wx k, k ≤ s → Below w5.heap.size w5 wx → IsB wx (.slice A5 k c5) (S.take k)) := fun wx k hk hb =>
      ⟨_, _, _, rfl, by omega, HCM5.out, by rw [List.length_take, HS.out]; omega, by rw [vals_take]; exact (HS5.out.bel hb).take k⟩
    have HS8 : Hid (IsB w8 (.slice A5 s c5) S) := by
      have h := HSS.out w8 s (Nat.le_refl _) HB8.out
      rw [List.take_of_length_le (by rw [HS.out]; exact Nat.le_refl _)] at h
      exact h
    have hcm5 := HCM5.out
    unfold maxLen at hcm5
    go_wp2_with fail
    rw [HC3.out]
    refine (open_code (C + 1) _ S _ HS8.out (by rw [HS.out]; omega) 3 (by rw [HOO.out])).mono ?_
    rintro e w9 ⟨x9, y9, rfl, hb9⟩
    have HB9 := Lib.hid (HB8.out.trans (hb9.mono HB8.out.size))
    have HI9 := Lib.hid (HI8.out.bel hb9)
    have HR9 := Lib.hid (HR8.out.bel hb9)
    clear hb9 HI8 HR8 hq8 HBF8 HS8 HOO HC3
    have HBZ := Lib.hid HB9.out.size
    go_wp2_with fail
    go_loopw [22] (fun i wr => ∃ k : Nat, k ≤ s ∧ i = .int .i64 k ∧ Hid (Below w9.heap.size w9 wr)) (fun i _ => s - (intOf i).toNat)
    case atStart => exact ⟨0, by omega, rfl, Below.refl _ _⟩
    case round =>
      obtain ⟨k, hk, rfl, HBe⟩ := hrel
      have HB10 := Lib.hid (HB9.out.trans (HBe.out.mono HBZ.out))
      have HBF10 := Lib.hid (HBF5.out.trans (HB10.out.mono HBF5.out.size))
      obtain ⟨hq10, hq11⟩ := HQ.out wr HBF10.out
      by_cases hlt : k < s
      · have hkc : (k : Int) ≤ (c5 : Int) := by omega
        have HIB := Lib.hid (HSS.out wr k (by omega) HB10.out)
        have HT0 := Lib.hid (HOB.out k (by rw [HS.out]; exact hlt))
        have HL0 : Hid (((S.take k).length : Int) ≤ 1099511627776) := by show _ ≤ _; rw [List.length_take, HS.out]; omega
        generalize S.take k = L at *
        have CO : Hid (Calls Tryd.prog 15 #[.int .u8 (IntKind.u8.wrap (P : Int)), .slice A5 k c5] wr.drew fun e w' => ∃ a b, e = .returned (.tuple #[a, b, .int .i64 2]) ∧ Below wr.heap.size wr w') := by
          show Calls _ _ _ _ _
          rw [HC2.out]
          refine (open_code C _ L wr.drew HIB.out HL0.out 2 (by rw [HT0.out])).mono ?_
          rintro e w' ⟨a, b, rfl, hb⟩
          exact ⟨a, b, rfl, ⟨hb.os, hb.tape, hb.output, hb.size, hb.block⟩⟩
        go_wp2_with fail
        go_region_with (go_at_call 15; refine CO.out.mono ?_; rintro e w11 ⟨x11, y11, rfl, hb11⟩; have HBe2 := Lib.hid (HBe.out.trans (hb11.mono HBe.out.size)); clear hb11)
        all_goals
          go_wp2_with fail
          go_roundw
          case rel => exact ⟨k + 1, by omega, by go_num, HBe2⟩
          case measure => simp [intOf]; omega
      · have hks : k = s := by omega
        subst hks
        have HX10 := Lib.hid (HX5.out.bel HB10.out)
        have HR10 := Lib.hid (HR5.out.bel HB10.out)
        have HI10 := Lib.hid (HI9.out.bel HBe.out)
        have HRR10 := Lib.hid (HR9.out.bel HBe.out)
        have HY10 : Hid (IsB wr (.slice a1 m1 c1) Y) := ⟨_, _, _, rfl, hmc1, HMX1.out, HLY.out, HY5.out.bel HB10.out⟩
        have HBW := Lib.hid (HB1.out.trans (HBF10.out.mono HB1.out.size))
        have QY := quiet_few FY wr
        have s1 := str_at HX10.out
        have s2 := str_at HR10.out
        have s3 := str_at HI10.out
        have s4 := str_at HRR10.out
        have s5 := str_at HY10.out
        clear HX10 HR10 HI10 HRR10 HY10 HBe HB10 HBF10 HSS HOB HQ HX5 HR5 HI9 HR9 HY5 HB9 HB8 HBF5 HS5 HOL HBZ hcm5
        rcases HFC.out with ⟨h1, h2⟩ | ⟨h1, h2⟩
        · subst h1 h2
          go_wp2_with fail
          go_quiet ((go_at_call 11; with_reducible exact Calls.quiet_of_same (QY.out _)))
          go_wp2_with fail
          go_ret
          exact ⟨rfl, drewN_below HBW.out _⟩
        · subst h2
          have hne : ((P : Int) == (Q : Int)) = false := by rw [beq_eq_false_iff_ne]; omega
          clear h1
          go_wp2_with fail
          go_quiet ((go_at_call 11; with_reducible exact Calls.quiet_of_same (QY.out _)))
          go_wp2_with fail
          go_ret
          exact ⟨rfl, drewN_below HBW.out _⟩
end Go.Proofs.YtlobajlodbdeiaaDoor
