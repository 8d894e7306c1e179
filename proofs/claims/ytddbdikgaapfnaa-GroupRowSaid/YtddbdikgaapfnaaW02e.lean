/- The walks of the laws of package theseuslaw02: GroupRow. -/
import Derived.Test.YtddbdikgaapfnaaL02
import Derived.Test.YtddbdikgaapfnaaFrame
namespace Go.Proofs.Ytddbdikgaapfnaa
open Go.RowKit
set_option linter.unusedVariables false
set_option linter.unusedSimpArgs false
attribute [local go_sem ↓] sliced_cut
attribute [local go_sem] cutA_zero

/-- what is put of a number of 32 bits -/
def low28 (a : Int) : Nat := a.toNat &&& 268435455
theorem low28_le (a : Int) : low28 a ≤ 268435455 := Nat.and_le_right
theorem low28_and (a : Int) (h : (Lit.int .u32 a).wf = true) : bits .and .i64 a 268435455 = (low28 a : Int) := by
  obtain ⟨h0, h1⟩ := bounds_u32 h
  obtain ⟨m, rfl⟩ := Int.eq_ofNat_of_zero_le h0
  exact i64_and_nat m 268435455 (by omega) (by omega)
def rowG (l : List Int) : List UInt8 := l.flatMap fun a => grp (low28 a)
theorem rowG_take_succ (l : List Int) (k : Nat) (h : k < l.length) : rowG (l.take (k + 1)) = rowG (l.take k) ++ grp (low28 l[k]) := by
  rw [take_snoc_get l k h, rowG, List.flatMap_append]
  simp [rowG]
theorem rowG_drop (l : List Int) (N k : Nat) (hk : k < N) (h : k < l.length) : (rowG (l.take N)).drop (rowG (l.take k)).length = grp (low28 l[k]) ++ rowG ((l.take N).drop (k + 1)) := by
  have e : l.take N = l.take k ++ (l[k] :: (l.take N).drop (k + 1)) := by
    have h1 : k < (l.take N).length := by rw [List.length_take]; omega
    have h2 := List.drop_eq_getElem_cons h1
    rw [List.getElem_take] at h2
    rw [← h2]
    have h3 : l.take k = (l.take N).take k := by rw [List.take_take, Nat.min_eq_left (by omega)]
    rw [h3, List.take_append_drop]
  have e2 : rowG (l.take N) = rowG (l.take k) ++ (grp (low28 l[k]) ++ rowG ((l.take N).drop (k + 1))) := by
    conv => lhs; rw [e, rowG, List.flatMap_append, List.flatMap_cons]
    rfl
  rw [e2, List.drop_left' rfl]
set_option maxRecDepth 100000 in
set_option maxHeartbeats 4000000 in
theorem walkGroupRow (a0 : Option Addr) (n0 c0 : Nat) (l0 : List Int) (w : World) (w0 : InI .u32 w a0 n0 c0 l0) :
    Calls Try.prog 7 #[.slice a0 n0 c0] w fun e w' => e = .returned (.bool true) ∧ Below w.heap.size w w' := by
  obtain ⟨hlen, hcap, hmax, hhas, hwf⟩ := w0
  have hmax' := hmax
  unfold maxLen at hmax'
  obtain ⟨N, hN⟩ : ∃ N, min n0 20 = N := ⟨_, rfl⟩
  have hN1 : N ≤ 20 := by omega
  have hN2 : N ≤ n0 := by omega
  have hN3 : N = n0 ∨ N = 20 := by omega
  have HL := Lib.hid hlen
  have HH := Lib.hid hhas
  have HWF := Lib.hid hwf
  clear hN hmax hhas hlen hwf
  go_enter Try.func7, Try.ntmps7
  go_wp2_with fail
  refine (shown2 _).mono ?_
  rintro e w1 ⟨rfl, hb1⟩
  have HB1 := Lib.hid hb1
  clear hb1
  go_wp2_with fail
  have HO0 : Hid ((w1.alloc (.cells #[] 5)).ownsRow w.heap.size 5 1 (.slice (some ⟨w1.heap.size, 0, none⟩) 0 0) 0 (vals (rowG (l0.take 0)))) :=
    World.ownsRow_lit (e := 5) (size := 1) w1 #[] 0 HB1.out.size (by decide) rfl
  have HB2 := Lib.hid (HB1.out.alloc HB1.out.size (.cells #[] 5))
  go_loopw [4, 5] (fun v i wr => ∃ k c : Nat, k ≤ N ∧ i = .int .i64 k ∧ c ≤ 4 * k ∧ Hid (wr.ownsRow w.heap.size 5 1 v c (vals (rowG (l0.take k)))) ∧ Hid (Below w.heap.size w wr)) (fun _ i _ => N - (intOf i).toNat)
  case atStart => exact ⟨0, 0, Nat.zero_le _, rfl, by omega, HO0, HB2⟩
  case round =>
    obtain ⟨k, c, hk, rfl, hc, HW, HBe⟩ := hrel
    clear HO0 HB2
    by_cases hlt : k < N
    · have hkl : k < l0.length := by rw [HL.out]; omega
      obtain ⟨ad, rfl, hcell0⟩ := HH.out.at_ (k := k) (by rw [List.length_map]; exact hkl)
      rw [List.getElem_map] at hcell0
      have HCE := Lib.hid hcell0
      clear hcell0
      have hcell : wr.cell? (ad.add k) = some (.int .u32 l0[k]) := by
        rw [HBe.out.cell (World.block_lt_of_cell? w _ HCE.out)]
        exact HCE.out
      have hand := low28_and l0[k] (HWF.out _ (List.getElem_mem hkl))
      obtain ⟨hb0, hb1⟩ := bounds_u32 (HWF.out _ (List.getElem_mem hkl))
      have HSUC := Lib.hid (rowG_take_succ l0 k hkl)
      have hz := low28_le l0[k]
      obtain ⟨z, hzz⟩ : ∃ z, low28 l0[k] = z := ⟨_, rfl⟩
      rw [hzz] at hand hz
      obtain ⟨s, HS, hs1, hs2⟩ := size_pack z
      have hz' : (z : Int) ≤ 268435455 := by omega
      have HGL : Hid ((grp z).length = s) := by show _ = _; rw [grp_length]; exact HS.out
      have HZ := Lib.hid hzz
      clear hzz hz
      go_wp2_with fail
      refine (gput_core z s _ hz' HS).mono ?_
      rintro e w' ⟨rfl, rfl⟩
      obtain ⟨i0, hi0, hz0, hz1, hz2⟩ := info_parts byte_info
      go_wp2_with (at_builtin; refine wpList_append_has _ rfl (.tmp 37) (.tmp 38) _ rfl w.heap.size 5 i0 (.int .u8 0) 1 Try.underlying22 hi0 hz0 hz1 hz2 rfl _ c _ rfl (HW.out.alloc _) _ s _ (vals (grp z)) rfl (by rw [vals_length]; exact HGL.out) (Has.new wr (vals (grp z)) _ _) (vals_one _) (by unfold maxLen; omega) (by omega) (by have := HBe.out.size; simp only [World.size_alloc]; omega) ?_; intro v2 w2 hown2 hgrow2 _; have HO := Lib.hid hown2; have HG := Lib.hid hgrow2; clear hown2 hgrow2)
      go_roundw
      case rel =>
        refine ⟨k + 1, c + s, by omega, by go_num, by omega, ?_, ?_⟩
        · rw [HSUC.out, vals_append, HZ.out]
          exact HO.out
        · exact (HBe.out.alloc HBe.out.size _).grown HG.out (by have := HBe.out.size; simp only [World.size_alloc]; omega) (fun q hq => (HW.out.lt q hq).1)
      case measure => simp [intOf]; omega
    · have hkN : k = N := by omega
      subst hkN
      have HCL : Hid ((rowG (l0.take k)).length = c) := by
        have := HW.out.1
        rw [vals_length, Nat.mul_one] at this
        exact this
      obtain ⟨A, cc, rfl, hkc, hcm, hcl, hcA⟩ := Sl.of_own HW.out
      have hcm' := hcm
      unfold maxLen at hcm'
      have HCM := Lib.hid hcm
      have HA := Lib.hid hcA
      have hex : ¬ k < n0 ∨ k < n0 ∧ ¬ (k : Int) < 20 := by omega
      clear hcm hcl hcA hN3
      rcases hex with hq | ⟨hq, hq2⟩
      all_goals
        go_wp2_with fail
        go_loop [8, 9] (fun p i => ∃ j q : Nat, j ≤ k ∧ i = .int .i64 j ∧ q ≤ c ∧ p = .int .i64 q ∧ Hid (q = (rowG (l0.take j)).length)) (fun _ i => k - (intOf i).toNat)
        case atStart => exact ⟨0, 0, Nat.zero_le _, rfl, Nat.zero_le _, rfl, rfl⟩
        case round =>
          obtain ⟨j, q, hj, rfl, hqc, rfl, HQ⟩ := hrel
          by_cases hjl : j < k
          · have hjk : j < l0.length := by rw [HL.out]; omega
            obtain ⟨ad, rfl, hcell0⟩ := HH.out.at_ (k := j) (by rw [List.length_map]; exact hjk)
            rw [List.getElem_map] at hcell0
            have HCE := Lib.hid hcell0
            clear hcell0
            have hcell : wr.cell? (ad.add j) = some (.int .u32 l0[j]) := by
              rw [HBe.out.cell (World.block_lt_of_cell? w _ HCE.out)]
              exact HCE.out
            have hand := low28_and l0[j] (HWF.out _ (List.getElem_mem hjk))
            obtain ⟨hb0, hb1⟩ := bounds_u32 (HWF.out _ (List.getElem_mem hjk))
            have HSUC := Lib.hid (rowG_take_succ l0 j hjk)
            have HDR := Lib.hid (rowG_drop l0 k j hjl hjk)
            have hz := low28_le l0[j]
            obtain ⟨z, hzz⟩ : ∃ z, low28 l0[j] = z := ⟨_, rfl⟩
            rw [hzz] at hand hz HSUC HDR
            rw [← HQ.out] at HDR
            obtain ⟨s, HS, hs1, hs2⟩ := size_pack z
            have hz' : (z : Int) ≤ 268435455 := by omega
            have HTK : Hid (takeG ((rowG (l0.take k)).drop q) = ((z : Int), (s : Int), 0)) := by
              show _ = _
              rw [HDR.out, take_grp z (by omega), HS.out]
            have HDL : Hid (((rowG (l0.take k)).drop q).length = c - q) := by
              show _ = _
              rw [List.length_drop, HCL.out]
            have HDH : Hid (Has wr (cutA A cc q 1) (vals ((rowG (l0.take k)).drop q))) := by
              rw [vals_drop]
              exact HA.out.cutA (by rw [vals_length, HCL.out]; exact hkc)
            have hqs : q + s ≤ c := by
              have h1 := HDL.out
              rw [HDR.out, List.length_append, grp_length, HS.out] at h1
              omega
            have HQ2 : Hid (q + s = (rowG (l0.take (j + 1))).length) := by
              show _ = _
              rw [HSUC.out, List.length_append, grp_length, HS.out, ← HQ.out]
            clear hzz hz
            go_wp2_with fail
            refine (gtake_core _ (c - q) (cc - q) _ _ HDL (by omega) (by unfold maxLen; omega) HDH).mono ?_
            rintro e w' ⟨rfl, rfl⟩
            rw [HTK.out]
            go_wp2_with (go_at_call 16; refine (gsize_core z s _ hz' HS).mono ?_; rintro e w' ⟨rfl, rfl⟩)
            go_round
            case rel => exact ⟨j + 1, q + s, by omega, by go_num, hqs, by go_num, HQ2⟩
            case measure => simp [intOf]; omega
          · have hjk : j = k := by omega
            subst hjk
            have hqe : q = c := by rw [HQ.out, HCL.out]
            subst hqe
            go_wp2_with fail
            go_ret
            exact ⟨rfl, HBe.out⟩
end Go.Proofs.Ytddbdikgaapfnaa
