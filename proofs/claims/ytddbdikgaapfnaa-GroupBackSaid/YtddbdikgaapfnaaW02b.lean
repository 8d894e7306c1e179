/- The walks of the laws of package theseuslaw02: GroupBack. -/
import Derived.Test.YtddbdikgaapfnaaL02
import Derived.Test.YtddbdikgaapfnaaFrame
namespace Go.Proofs.Ytddbdikgaapfnaa
open Go.RowKit
set_option linter.unusedVariables false
set_option linter.unusedSimpArgs false
attribute [local go_sem ↓] sliced_cut
attribute [local go_sem] cutA_zero

set_option maxRecDepth 100000 in
set_option maxHeartbeats 1000000 in
theorem walkGroupBack (a0 : Int) (a1 : Option Addr) (n1 c1 : Nat) (l1 : List UInt8) (w : World) (w0 : (Lit.int .u32 a0).wf = true) (w1 : InB w a1 n1 c1 l1) :
    Calls Try.prog 4 #[.int .u32 a0, .slice a1 n1 c1] w fun e w' => e = .returned (.bool true) ∧ Below w.heap.size w w' := by
  obtain ⟨hl0, hh0⟩ := bounds_u32 w0
  clear w0
  obtain ⟨m, rfl⟩ := Int.eq_ofNat_of_zero_le hl0
  obtain ⟨x, hx, hax⟩ := mask28 m (by omega)
  obtain ⟨s, HS, hs1, hs2⟩ := size_pack x
  obtain ⟨hlen, hcap, hmax, hhas⟩ := w1
  obtain ⟨N, hN⟩ : ∃ N, min n1 20 = N := ⟨_, rfl⟩
  have hN1 : N ≤ 20 := by omega
  have hN2 : N ≤ c1 := by omega
  have HL : Hid ((l1.take 20).length = N) := by show _ = _; rw [List.length_take, hlen, Nat.min_comm]; exact hN
  have HH : Hid (Has w a1 (vals (l1.take 20))) := by rw [vals_take]; exact Has.take hhas 20
  generalize l1.take 20 = L at *
  have HN := Lib.hid hN
  have HC := Lib.hid hcap
  have HM := Lib.hid hmax
  clear hN hmax hhas hlen hcap
  have HGL : Hid ((grp x).length = s) := by show _ = _; rw [grp_length]; exact HS.out
  have hx0 : 0 ≤ (x : Int) := by omega
  go_enter Try.func4, Try.ntmps4
  go_wp2_with fail
  refine (shown2 _).mono ?_
  rintro e w1 ⟨rfl, hb1⟩
  have HB1 := Lib.hid hb1
  clear hb1
  go_wp2_with fail
  refine (gput_core x s _ hx HS).mono ?_
  rintro e w' ⟨rfl, rfl⟩
  clear hax
  have p1 := Lib.hid (Has.new w1 (vals (grp x)) 5 (0, 0))
  have hb2 : Hid (Below w.heap.size w (w1.alloc (.cells (vals (grp x)).toArray 5))) := HB1.out.alloc HB1.out.size _
  generalize w1.alloc (.cells (vals (grp x)).toArray 5) = W at *
  generalize w1.heap.size = g at *
  have HO0 : Hid ((W.alloc (.cells #[] 5)).ownsRow W.heap.size 5 1 (.slice (some ⟨W.heap.size, 0, none⟩) 0 0) 0 (vals [])) :=
    World.ownsRow_lit (e := 5) (size := 1) W #[] 0 (Nat.le_refl _) (by decide) rfl
  obtain ⟨i0, hi0, hz0, hz1, hz2⟩ := info_parts byte_info
  have HI : Hid (Try.prog.info? 5 = some i0 ∧ i0.zero = some (.int .u8 0) ∧ i0.size = 1 ∧ i0.bytes = 1) := ⟨hi0, hz0, hz1, hz2⟩
  go_wp2_with (at_builtin; refine wpList_append_has _ rfl (.tmp 29) (.tmp 30) _ rfl W.heap.size 5 i0 (.int .u8 0) 1 Try.underlying22 hi0 hz0 hz1 hz2 rfl _ 0 _ rfl HO0.out _ s _ (vals (grp x)) rfl (by rw [vals_length]; exact HGL.out) (p1.out.alloc _) (vals_one _) (by unfold maxLen; omega) (by omega) (by simp only [World.size_alloc]; omega) ?_; intro v2 w2 hown2 hgrow2 _; have HO := Lib.hid hown2; have HG := Lib.hid hgrow2; clear hown2 hgrow2)
  have hb3 : Hid (Below W.heap.size W w2) := ((Below.refl _ _).alloc (Nat.le_refl _) _).grown HG.out (by simp only [World.size_alloc]; omega) (fun q hq => (HO0.out.lt q hq).1)
  refine (few2 _ _ _ _ HC.out HM.out).mono ?_
  rintro e w' ⟨rfl, rfl⟩
  rw [HN.out]
  go_wp2_with (at_builtin; refine wpList_append_has _ rfl (.tmp 31) (.tmp 33) _ rfl W.heap.size 5 i0 (.int .u8 0) 1 Try.underlying22 hi0 hz0 hz1 hz2 rfl _ (0 + s) _ rfl HO.out _ N _ (vals L) rfl (by rw [vals_length]; exact HL.out) ((HH.out.bel hb2.out).below hb3.out (Nat.le_refl _)) (vals_one _) (by unfold maxLen; omega) (by omega) hb3.out.size ?_; intro v3 w3 hown3 hgrow3 _; have HO3 := Lib.hid hown3; have HG3 := Lib.hid hgrow3; clear hown3 hgrow3)
  have hb4 : Hid (Below W.heap.size W w3) := hb3.out.grown HG3.out hb3.out.size (fun q hq => (HO.out.lt q hq).1)
  obtain ⟨A, c, rfl, hkc, hcm, hcl, hcA⟩ := Sl.of_own HO3.out
  have HB5 : Hid (Below w.heap.size w w3) := hb2.out.trans (hb4.out.mono hb2.out.size)
  have hcat : Hid (Has w3 A (vals (grp x ++ L))) := by
    have h := hcA
    rw [vals_append]
    exact h
  have hlen : Hid ((grp x ++ L).length = 0 + s + N) := by
    show _ = _
    rw [List.length_append, HGL.out, HL.out, Nat.zero_add]
  have HCM := Lib.hid hcm
  have p3 : Hid (Has w3 (some ⟨g, 0, none⟩) (vals (grp x))) := p1.out.bel hb4.out
  clear hcA hcl hcm HO0 HO HG hb3 hb4 HG3 HO3 hi0 hz0 hz1 hz2 p1
  refine (gtake_core A _ c (grp x ++ L) _ hlen hkc HCM.out hcat).mono ?_
  rintro e w' ⟨rfl, rfl⟩
  rw [take_grp x (by omega) L, HS.out]
  go_wp2_with fail
  go_loop [12] (fun i => ∃ k : Nat, k ≤ s ∧ i = .int .i64 k) (fun i => s - (intOf i).toNat)
  case atStart => exact ⟨0, Nat.zero_le _, rfl⟩
  case round =>
    obtain ⟨k, hk2, rfl⟩ := hrel
    by_cases hlt : k < s
    · have HTL : Hid (((grp x).take k).length = k) := by show _ = _; rw [List.length_take, HGL.out]; omega
      have HTH : Hid (Has w3 (some ⟨g, 0, none⟩) (vals ((grp x).take k))) := by rw [vals_take]; exact p3.out.take k
      go_wp2_with fail
      refine (gtake_core _ k s ((grp x).take k) _ HTL (by omega) (by unfold maxLen; omega) HTH).mono ?_
      rintro e w' ⟨rfl, rfl⟩
      rw [take_begin x k (by omega) (by rw [HS.out]; exact hlt)]
      go_wp2_with fail
      go_round
      case rel => exact ⟨k + 1, by omega, by go_num⟩
      case measure => simp [intOf]; omega
    · obtain ⟨hi0, hz0, hz1, hz2⟩ := HI.out
      have HOL := Lib.hid (World.ownsRow_lit (e := 5) (size := 1) w3 (vals [128]).toArray 1 (Nat.le_refl _) (by decide) rfl)
      go_wp2_with (at_builtin; refine wpList_append_has _ rfl (.tmp 56) (.tmp 57) _ rfl w3.heap.size 5 i0 (.int .u8 0) 1 Try.underlying22 hi0 hz0 hz1 hz2 rfl _ 1 (vals [128]) rfl HOL.out _ s _ (vals (grp x)) rfl (by rw [vals_length]; exact HGL.out) (p3.out.alloc _) (vals_one _) (by unfold maxLen; omega) (by omega) (by simp only [World.size_alloc]; omega) ?_; intro v4 w4 hown4 hgrow4 _; have HO4 := Lib.hid hown4; have HG4 := Lib.hid hgrow4; clear hown4 hgrow4)
      have hb6 : Below w3.heap.size w3 w4 := ((Below.refl _ _).alloc (Nat.le_refl _) _).grown HG4.out (by simp only [World.size_alloc]; omega) (fun q hq => (HOL.out.lt q hq).1)
      have HB6 : Hid (Below w.heap.size w w4) := HB5.out.trans (hb6.mono HB5.out.size)
      obtain ⟨A4, c4, rfl, hkc4, hcm4, hcl4, hcA4⟩ := Sl.of_own HO4.out
      have hcat4 : Hid (Has w4 A4 (vals (128 :: grp x))) := by
        have h := hcA4
        rw [← vals_append] at h
        exact h
      have hlen4 : Hid ((128 :: grp x).length = 1 + s) := by
        show _ = _
        rw [List.length_cons, HGL.out, Nat.add_comm]
      have HCM4 := Lib.hid hcm4
      clear hcA4 hcl4 hcm4 hb6 HG4 HO4 HOL hi0 hz0 hz1 hz2
      refine (gtake_core A4 _ c4 (128 :: grp x) _ hlen4 hkc4 HCM4.out hcat4).mono ?_
      rintro e w' ⟨rfl, rfl⟩
      rw [take_nought]
      go_wp2_with (go_at_call 16; refine (gsize_core x s _ hx HS).mono ?_; rintro e w' ⟨rfl, rfl⟩)
      go_ret
      exact ⟨rfl, HB6.out⟩
end Go.Proofs.Ytddbdikgaapfnaa
