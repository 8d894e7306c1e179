/- The walks of the laws of package theseuslaw04: FrameNest. -/
import Derived.Test.YtlobajlodbdeiaaL04
import Derived.Deep.DeepCutAuto
namespace Go.Proofs.Ytlobajlodbdeiaa
open Go.RowKit
set_option linter.unusedVariables false
set_option linter.unusedSimpArgs false

set_option maxRecDepth 100000 in
set_option maxHeartbeats 4000000 in
theorem walkFrameNest (a0 : Option Addr) (n0 c0 : Nat) (l0 : List UInt8) (a1 : Option Addr) (n1 c1 : Nat) (l1 : List UInt8) (l2 : List Int) (w : World) (w0 : InB w a0 n0 c0 l0) (w1 : InB w a1 n1 c1 l1) (w2 : l2.length = 3 ∧ ∀ x ∈ l2, (Lit.int .u8 x).wf = true) :
    Calls Try.prog 3 #[.slice a0 n0 c0, .slice a1 n1 c1, .agg (l2.map (Value.int .u8)).toArray] w fun e w' => e = .returned (.bool true) ∧ Below w.heap.size w w' := by
  obtain ⟨m0, X, hm0, hlx, hmc0, hmx0, HX, FX⟩ := few_pack a0 n0 c0 l0 w w0
  obtain ⟨m1, Y, hm1, hly, hmc1, hmx1, HY, FY⟩ := few_pack a1 n1 c1 l1 w w1
  obtain ⟨hl2, hw2⟩ := w2
  obtain ⟨p0, p1, p2, rfl⟩ : ∃ p0 p1 p2, l2 = [p0, p1, p2] := by
    match l2, hl2 with
    | [a, b, c], _ => exact ⟨a, b, c, rfl⟩
  have hbyte : ∀ p : Int, (Lit.int .u8 p).wf = true → ∃ D : UInt8, p = (D.toNat : Int) := fun p hp => by
    obtain ⟨h1, h2⟩ := bounds_u8 hp
    exact ⟨UInt8.ofNat p.toNat, by rw [toNat_ofNat_mod]; omega⟩
  obtain ⟨D0, rfl⟩ := hbyte p0 (hw2 p0 (by simp))
  obtain ⟨D1, rfl⟩ := hbyte p1 (hw2 p1 (by simp))
  obtain ⟨D2, rfl⟩ := hbyte p2 (hw2 p2 (by simp))
  clear hw2 hl2 w0 w1 hbyte
  have HLX := Lib.hid hlx
  have HLY := Lib.hid hly
  have HMX0 := Lib.hid hmx0
  have HMX1 := Lib.hid hmx1
  have hx2 : X.length ≤ 268435455 := by omega
  have hy2 : Y.length ≤ 268435455 := by omega
  obtain ⟨S1, hS1⟩ : ∃ S, D0 :: (grp X.length ++ X) = S := ⟨_, rfl⟩
  obtain ⟨S2, hS2⟩ : ∃ S, D1 :: (grp Y.length ++ Y) = S := ⟨_, rfl⟩
  have hl1 : S1.length = 1 + gsize m0 + m0 := by rw [← hS1, List.length_cons, List.length_append, grp_length, hlx]; omega
  have hl2' : S2.length = 1 + gsize m1 + m1 := by rw [← hS2, List.length_cons, List.length_append, grp_length, hly]; omega
  have hg0 := gsize_pos m0
  have hg1 := gsize_pos m1
  obtain ⟨G, hG, hG1, hG2⟩ : ∃ G, gsize m0 = G ∧ 1 ≤ G ∧ G ≤ 4 := ⟨_, rfl, hg0.1, hg0.2⟩
  rw [hG] at hl1
  have HSZ : Hid (sizeS (m0 : Int) = (G : Int)) := by show _ = _; rw [sizeS, if_pos ⟨by omega, by omega⟩, Int.toNat_natCast, hG]
  obtain ⟨s2, hs2⟩ : ∃ s, S2.length = s := ⟨_, rfl⟩
  have hs2b : s2 ≤ 160 := by omega
  have HSX : Hid (sectF D0 X = (S1, 0)) := by show _ = _; rw [← hS1, sectF, if_pos hx2]
  have HSY : Hid (sectF D1 Y = (S2, 0)) := by show _ = _; rw [← hS2, sectF, if_pos hy2]
  obtain ⟨L, hL⟩ : ∃ L, S1 ++ S2 = L := ⟨_, rfl⟩
  have hLL : L.length = 1 + G + m0 + s2 := by rw [← hL, List.length_append, hl1, hs2]
  have hL2 : L.length ≤ 268435455 := by omega
  obtain ⟨S3, hS3⟩ : ∃ S, D2 :: (grp L.length ++ L) = S := ⟨_, rfl⟩
  have hl3 : S3.length ≤ 1000 := by rw [← hS3, List.length_cons, List.length_append, grp_length]; have := gsize_pos L.length; omega
  have HSL : Hid (sectF D2 L = (S3, 0)) := by show _ = _; rw [← hS3, sectF, if_pos hL2]
  have HO1 : Hid (openF D2 S3 = (L, [], 0)) := by
    show _ = _
    have := open_sect D2 L [] hL2
    rw [hS3, List.append_nil] at this
    exact this
  have HO2 : Hid (openF D0 L = (X, S2, 0)) := by
    show _ = _
    have := open_sect D0 X S2 hx2
    rw [hS1, hL] at this
    exact this
  have HO3 : Hid (openF D1 S2 = (Y, [], 0)) := by
    show _ = _
    have := open_sect D1 Y [] hy2
    rw [hS2, List.append_nil] at this
    exact this
  have HL1 := Lib.hid hl1
  have HL2 := Lib.hid hs2
  have HL3 := Lib.hid hl3
  have HLL := Lib.hid hLL
  have HLA := Lib.hid hL
  clear hlx hly hmx0 hmx1 hx2 hy2 hS1 hS2 hl1 hl2' hg0 hg1 hG hs2 hLL hL2 hS3 hl3 hL
  go_enter Try.func3, Try.ntmps3
  go_wp2_with fail
  refine (shown4 _).mono ?_
  rintro e w1 ⟨rfl, hb1⟩
  have HB1 : Hid (Below w.heap.size w w1) := ((Below.refl _ _).alloc (Nat.le_refl _) _).trans (hb1.mono (by simp))
  have hq0 : w1.cell? ⟨w.heap.size, 0, none⟩ = some (.int .u8 (D0.toNat : Int)) := by
    rw [hb1.cell (by simp), World.cell?_alloc_mark]
    rfl
  have hq1 : w1.cell? ⟨w.heap.size, 1, none⟩ = some (.int .u8 (D1.toNat : Int)) := by
    rw [hb1.cell (by simp), World.cell?_alloc_mark]
    rfl
  have hq2 : w1.cell? ⟨w.heap.size, 2, none⟩ = some (.int .u8 (D2.toNat : Int)) := by
    rw [hb1.cell (by simp), World.cell?_alloc_mark]
    rfl
  have HZ : Hid (w.heap.size < w1.heap.size) := by
    have := hb1.size
    simp only [World.size_alloc] at this
    exact this
  have HQ : Hid (∀ wx, Below w1.heap.size w1 wx → wx.cell? ⟨w.heap.size, 0, none⟩ = some (.int .u8 (D0.toNat : Int)) ∧ wx.cell? ⟨w.heap.size, 1, none⟩ = some (.int .u8 (D1.toNat : Int)) ∧ wx.cell? ⟨w.heap.size, 2, none⟩ = some (.int .u8 (D2.toNat : Int))) := fun wx hb =>
    ⟨by rw [hb.cell HZ.out]; exact hq0, by rw [hb.cell HZ.out]; exact hq1, by rw [hb.cell HZ.out]; exact hq2⟩
  have HX1 : Hid (IsB w1 (.slice a0 m0 c0) X) := ⟨_, _, _, rfl, hmc0, HMX0.out, HLX.out, HX.out.bel HB1.out⟩
  have HY1 : Hid (IsB w1 (.slice a1 m1 c1) Y) := ⟨_, _, _, rfl, hmc1, HMX1.out, HLY.out, HY.out.bel HB1.out⟩
  have C1 : Hid (Calls Try.prog 5 #[.int .u8 (D0.toNat : Int), .slice a0 m0 c0] w1.drew fun e w' => ∃ v', e = .returned (.tuple #[v', .int .i64 0]) ∧ IsB w' v' S1 ∧ Below w1.heap.size w1 w') := by
    refine (section_any D0 (.slice a0 m0 c0) X w1.drew HX1.out (by rw [HLX.out]; omega)).mono ?_
    rintro e w' ⟨v', rfl, ho, hb⟩
    rw [HSX.out] at ho ⊢
    exact ⟨v', rfl, ho, ⟨hb.os, hb.tape, hb.output, hb.size, hb.block⟩⟩
  clear hb1 HX HY hq1 hq2
  go_upto_region 2 with fail
  go_cut [8, 9] (fun a b wx => Hid (IsB wx a S1) ∧ b = .int .i64 0 ∧ Hid (Below w1.heap.size w1 wx))
  case first =>
    go_region_with (first
      | (go_at_call 6; refine (FX.out _).mono ?_; rintro e w' ⟨rfl, rfl⟩)
      | (go_at_call 5; refine C1.out.mono ?_; rintro e w2 ⟨v2, rfl, ho2, hb2⟩; have HO2 := Lib.hid ho2; have HBB2 := Lib.hid hb2; clear ho2 hb2))
    all_goals
      go_wp2_with fail
      go_meet
      exact ⟨HO2, rfl, HBB2⟩
  case rest =>
    obtain ⟨HV2, rfl, HBF2⟩ := hcut
    generalize wc = w2 at *
    clear C1 hq0
    have hq2 := (HQ.out w2 HBF2.out).2.1
    have HY2 := Lib.hid (HY1.out.bel HBF2.out)
    have C2 : Hid (Calls Try.prog 5 #[.int .u8 (D1.toNat : Int), .slice a1 m1 c1] w2.drew fun e w' => ∃ v', e = .returned (.tuple #[v', .int .i64 0]) ∧ IsB w' v' S2 ∧ Below w2.heap.size w2 w') := by
      refine (section_any D1 (.slice a1 m1 c1) Y w2.drew HY2.out (by rw [HLY.out]; omega)).mono ?_
      rintro e w' ⟨v', rfl, ho, hb⟩
      rw [HSY.out] at ho ⊢
      exact ⟨v', rfl, ho, ⟨hb.os, hb.tape, hb.output, hb.size, hb.block⟩⟩
    go_upto_region 3 with fail
    go_cut [10, 11] (fun a b wx => Hid (IsB wx a S2) ∧ b = .int .i64 0 ∧ Hid (Below w2.heap.size w2 wx))
    case first =>
      go_region_with (first
        | (go_at_call 6; refine (FY.out _).mono ?_; rintro e w' ⟨rfl, rfl⟩)
        | (go_at_call 5; refine C2.out.mono ?_; rintro e w3 ⟨v3, rfl, ho3, hb3⟩; have HO3' := Lib.hid ho3; have HBB3 := Lib.hid hb3; clear ho3 hb3))
      all_goals
        go_wp2_with fail
        go_meet
        exact ⟨HO3', rfl, HBB3⟩
    case rest =>
      obtain ⟨HV3, rfl, HBB3⟩ := hcut
      generalize wc = w3 at *
      have HV23 := Lib.hid (HV2.out.bel HBB3.out)
      have HBF3 := Lib.hid (HBF2.out.trans (HBB3.out.mono HBF2.out.size))
      clear C2 hq2 HV2 HY2 HBF2 HBB3
      obtain ⟨A2, n2, c2, rfl, hnc2, hcm2, hln2, hcA2⟩ := HV23.out
      obtain ⟨A3, n3, c3, rfl, hnc3, hcm3, hln3, hcA3⟩ := HV3.out
      obtain rfl : 1 + G + m0 = n2 := by rw [← hln2]; exact HL1.out.symm
      obtain rfl : s2 = n3 := by rw [← hln3]; exact HL2.out.symm
      have HA2 : Hid (Has w3 A2 (vals S1)) := hcA2
      have HA3 : Hid (Has w3 A3 (vals S2)) := hcA3
      have HV2L : Hid ((vals S1).length = 1 + G + m0) := by show _ = _; rw [vals_length]; exact HL1.out
      have HV3L : Hid ((vals S2).length = s2) := by show _ = _; rw [vals_length]; exact HL2.out
      have HOL := Lib.hid (World.ownsRow_lit (e := 5) (size := 1) w3 #[] 0 (Nat.le_refl _) (by decide) rfl)
      obtain ⟨i0, hi0, hz0, hz1, hz2⟩ := info_parts byte_info
      clear hcm2 hln2 hcA2 hcm3 hln3 hcA3 HV23 HV3
      go_upto_region 5 with (first
        | (at_builtin; refine wpList_append_has _ rfl (.tmp 41) (.tmp 42) _ rfl w3.heap.size 5 i0 (.int .u8 0) 1 Try.underlying22 hi0 hz0 hz1 hz2 rfl (.slice (some ⟨w3.heap.size, 0, none⟩) 0 0) 0 [] rfl HOL.out A2 (1 + G + m0) c2 (vals S1) rfl HV2L.out (HA2.out.alloc _) (vals_one _) (by unfold maxLen; omega) (by omega) (by simp) ?_; intro v4 w4 hown4 hgrow4 _; have HW4 := Lib.hid hown4; have HB4 : Hid (Below w3.heap.size w3 w4) := ((Below.refl _ _).alloc (Nat.le_refl _) _).grown hgrow4 (by simp) (fun q hq => (HOL.out.lt q hq).1); have HA34 := Lib.hid (HA3.out.bel HB4.out); have HZ4 := Lib.hid HB4.out.size; clear hown4 hgrow4)
        | (at_builtin; refine wpList_append_has _ rfl (.tmp 43) (.tmp 44) _ rfl w3.heap.size 5 i0 (.int .u8 0) 1 Try.underlying22 hi0 hz0 hz1 hz2 rfl v4 (0 + (1 + G + m0)) _ rfl HW4.out A3 s2 c3 (vals S2) rfl HV3L.out HA34.out (vals_one _) (by unfold maxLen; omega) (by omega) HZ4.out ?_; intro v5 w5 hown5 hgrow5 _; have HW5 := Lib.hid hown5; have HB5 : Hid (Below w3.heap.size w3 w5) := HB4.out.grown hgrow5 HZ4.out (fun q hq => (HW4.out.lt q hq).1); clear hown5 hgrow5))
      have HV5 : Hid (IsB w5 v5 L) := by
        have h := HW5.out
        rw [List.nil_append, ← vals_append, HLA.out] at h
        exact IsB.of_own h
      have HBF5 := Lib.hid (HBF3.out.trans (HB5.out.mono HBF3.out.size))
      have hq5 := (HQ.out w5 HBF5.out).2.2
      clear HW4 HB4 HA34 HZ4 HW5 HB5 HOL HA2 HA3 HV2L HV3L hi0 hz0 hz1 hz2
      go_wp2_with fail
      refine (section_any D2 v5 L w5 HV5.out (by rw [HLL.out]; omega)).mono ?_
      rintro e w6 ⟨v6, rfl, hv6, hb6⟩
      rw [HSL.out] at hv6 ⊢
      have HV6 := Lib.hid hv6
      have HV56 := Lib.hid (HV5.out.bel hb6)
      have HBF6 := Lib.hid (HBF5.out.trans (hb6.mono HBF5.out.size))
      have hq6 := (HQ.out w6 HBF6.out).2.2
      clear hv6 hb6 HV5 hq5 HBF5
      go_wp2_with fail
      refine (open_any D2 v6 S3 w6 HV6.out (by have := HL3.out; omega)).mono ?_
      rintro e w7 ⟨x7, y7, rfl, hx7, hy7, hb7⟩
      rw [HO1.out] at hx7 hy7 ⊢
      have HX7 := Lib.hid hx7
      obtain ⟨B7, k7, d7, rfl, _, _, hk7, _⟩ := hy7
      simp only [List.length_nil] at hk7
      subst hk7
      have HV57 := Lib.hid (HV56.out.bel hb7)
      have HBF7 := Lib.hid (HBF6.out.trans (hb7.mono HBF6.out.size))
      have hq7 := (HQ.out w7 HBF7.out).1
      clear hx7 hb7 HV56 HV6 hq6 HBF6
      go_wp2_with fail
      refine (open_any D0 x7 L w7 HX7.out (by rw [HLL.out]; omega)).mono ?_
      rintro e w8 ⟨x8, y8, rfl, hx8, hy8, hb8⟩
      rw [HO2.out] at hx8 hy8 ⊢
      have HX8 := Lib.hid hx8
      have HY8 := Lib.hid hy8
      have HX78 := Lib.hid (HX7.out.bel hb8)
      have HV58 := Lib.hid (HV57.out.bel hb8)
      have HBF8 := Lib.hid (HBF7.out.trans (hb8.mono HBF7.out.size))
      have hq8 := (HQ.out w8 HBF8.out).2.1
      clear hx8 hy8 hb8 HX7 HV57 hq7 HBF7
      go_wp2_with fail
      refine (open_any D1 y8 S2 w8 HY8.out (by rw [HL2.out]; omega)).mono ?_
      rintro e w9 ⟨x9, y9, rfl, hx9, hy9, hb9⟩
      rw [HO3.out] at hx9 hy9 ⊢
      have HX9 := Lib.hid hx9
      obtain ⟨B9, k9, d9, rfl, _, _, hk9, _⟩ := hy9
      simp only [List.length_nil] at hk9
      subst hk9
      have HBF9 := Lib.hid (HBF8.out.trans (hb9.mono HBF8.out.size))
      have HBW := Lib.hid (HB1.out.trans (HBF9.out.mono HB1.out.size))
      have t1 := str_at (HX78.out.bel hb9)
      have t2 := str_at (HV58.out.bel hb9)
      have t3 := str_at (HX8.out.bel hb9)
      have t4 := str_at (HX1.out.bel HBF9.out)
      have t5 := str_at HX9.out
      have t6 := str_at (HY1.out.bel HBF9.out)
      clear hx9 hb9 HX8 HY8 HX78 HV58 hq8 HBF8 HX9 HX1 HY1 HQ HBF9
      have QX := quiet_few FX w9
      have QY := quiet_few FY w9
      have GS : Hid (∀ k, Calls Try.prog 8 #[.int .i64 (m0 : Int)] (w9.drewN k) fun e w' => e = .returned (.int .i64 (G : Int)) ∧ w' = w9.drewN k) := fun k => by
        have h := gsize_any (m0 : Int) (w9.drewN k)
        rw [HSZ.out] at h
        exact h.mono fun _ _ ⟨h1, h2⟩ => ⟨h1, h2.symm⟩
      have hw1 : IntKind.i64.wrap (1 + (G : Int)) = 1 + (G : Int) := IntWalk.i64_in _ (by omega)
      have hw2 : IntKind.i64.wrap (1 + (G : Int) + (m0 : Int)) = 1 + (G : Int) + (m0 : Int) := IntWalk.i64_in _ (by omega)
      go_wp2_with fail
      go_quiet ((first | (go_at_call 6; (first | (with_reducible exact Calls.quiet_of_same (QX.out _)) | (with_reducible exact Calls.quiet_of_same (QY.out _)))) | (go_at_call 8; with_reducible exact Calls.quiet_of_same (GS.out _))))
      clear hw1 hw2
      go_wp2_with fail
      go_ret
      exact ⟨rfl, drewN_below HBW.out _⟩
end Go.Proofs.Ytlobajlodbdeiaa
