/- Contract of package frame: Open. -/
import Derived.Test.YtlobajlodbdeiaaDoorSect
namespace Go.Proofs.YtlobajlodbdeiaaDoor
open Go.RowKit
set_option linter.unusedVariables false
set_option linter.unusedSimpArgs false
attribute [local go_sem ↓] sliced_cut
attribute [local go_sem] cutA_zero

set_option maxRecDepth 100000 in
set_option maxHeartbeats 1000000 in
theorem open_any (tag : UInt8) (v : Value) (l : List UInt8) (w : World) (hv : IsB w v l) (hn : (l.length : Int) ≤ 1099511627776) :
    Calls Tryd.prog 15 #[.int .u8 (tag.toNat : Int), v] w fun e w' =>
    ∃ a b, e = .returned (.tuple #[a, b, .int .i64 (openF tag l).2.2]) ∧ IsB w' a (openF tag l).1 ∧ IsB w' b (openF tag l).2.1 ∧ Below w.heap.size w w' := by
  obtain ⟨A, n, c, rfl, hnc, hcm, hl, hA⟩ := hv
  rcases l with _ | ⟨x, t⟩
  · simp only [List.length_nil] at hl
    subst hl
    clear hA
    go_enter Tryd.func15, Tryd.ntmps15
    go_wp2_with fail
    go_ret3
    exact ⟨_, _, rfl, IsB.nil_ _, IsB.nil_ _, Below.refl _ _⟩
  · have hm : t.length = n - 1 := by rw [← hl]; rfl
    have hn1 : 1 ≤ (n : Int) := by rw [← hl, List.length_cons]; omega
    rw [hl] at hn
    have HL := Lib.hid hl
    clear hl
    obtain ⟨ad, rfl, hcell⟩ := hA.at_ (k := 0) (by simp [vals])
    have hcell0 : w.cell? ad = some (.int .u8 (x.toNat : Int)) := by rw [addr_zero] at hcell; exact hcell
    clear hcell
    have hcm' := hcm
    unfold maxLen at hcm'
    by_cases hx : x = tag
    · subst hx
      have hA1 := hA.cutA (k := 1) (cap := c) (by rw [vals_length, HL.out]; exact hnc)
      rw [← vals_drop, List.drop_succ_cons, List.drop_zero] at hA1
      have HAT := Lib.hid hA1
      have HLT : Hid (t.length = n - 1) := hm
      have HA := Lib.hid hA
      have HTG := Lib.hid (taken_grp t)
      have hO : openF x (x :: t) = (if (takeG t).2.2 ≠ 0 then ([], [], (takeG t).2.2)
        else if ((t.drop (takeG t).2.1.toNat).length : Int) < (takeG t).1 then ([], [], 2)
        else ((t.drop (takeG t).2.1.toNat).take (takeG t).1.toNat, (t.drop (takeG t).2.1.toNat).drop (takeG t).1.toNat, 0)) := by
        rw [openF, if_neg (by simp)]
      have HO := Lib.hid hO
      clear hO hA hA1 hm
      have hne : ((x.toNat : Int) != (x.toNat : Int)) = false := by simp
      go_enter Tryd.func15, Tryd.ntmps15
      go_wp2_with fail
      refine (gtake_core _ _ _ t _ HLT (by omega) (by unfold maxLen; omega) HAT).mono ?_
      rintro e w' ⟨rfl, rfl⟩
      rcases HTG.out with ⟨N, hN, htg, hsl, htk⟩ | htg | ⟨htg, hl4⟩
      · obtain ⟨s, HS, hs1, hs2⟩ : ∃ s : Nat, Hid (gsize N = s) ∧ 1 ≤ (s : Int) ∧ (s : Int) ≤ 4 := ⟨gsize N, rfl, by have := gsize_pos N; omega, by have := gsize_pos N; omega⟩
        rw [HS.out, HLT.out] at hsl
        have HO2 := HO.out
        rw [htg, HS.out] at HO2
        rw [htg, HS.out]
        simp only [ne_eq, not_true_eq_false, if_false, Int.toNat_natCast, List.length_drop, HLT.out] at HO2
        have HO3 := Lib.hid HO2
        have hN' : (N : Int) ≤ 268435455 := by omega
        clear htg htk HTG HO2 HO hN
        have hcap : (N : Int) ≤ ((n - (1 + s) : Nat) : Int) → (N : Int) ≤ ((c - (1 + s) : Nat) : Int) := by omega
        by_cases hlt : n - (1 + s) < N
        · have HO4 : Hid (openF x (x :: t) = ([], [], 2)) := by
            show _ = _
            rw [HO3.out, if_pos (by omega)]
          clear HO3
          go_wp2_with fail
          go_ret3
          rw [HO4.out]
          exact ⟨_, _, rfl, IsB.nil_ _, IsB.nil_ _, Below.refl _ _⟩
        · have HO4 : Hid (openF x (x :: t) = ((t.drop s).take N, (t.drop s).drop N, 0)) := by
            show _ = _
            rw [HO3.out, if_neg (by omega)]
          have hA2 : Has w (cutA (some ad) c (1 + s) 1) (vals (t.drop s)) := by
            have h := HA.out.cutA (k := 1 + s) (cap := c) (by rw [vals_length, HL.out]; exact hnc)
            rw [← vals_drop, Nat.add_comm 1 s, List.drop_succ_cons] at h
            rw [Nat.add_comm 1 s]
            exact h
          have hlen : (t.drop s).length = n - (1 + s) := by rw [List.length_drop, HLT.out]; omega
          generalize t.drop s = T at *
          have hA3 := hA2.cutA (k := N) (cap := c - (1 + s)) (by rw [vals_length, hlen]; omega)
          rw [← vals_drop] at hA3
          have HV1 : IsB w.drew (.slice (cutA (some ad) c (1 + s) 1) N (c - (1 + s))) (T.take N) :=
            ⟨_, _, _, rfl, by omega, by unfold maxLen; omega, by rw [List.length_take, hlen]; omega, by rw [vals_take]; exact (hA2.take N).drew⟩
          have HV2 : ∀ w', Below w.heap.size w w' → IsB w' (.slice (cutA (cutA (some ad) c (1 + s) 1) (c - (1 + s)) N 1) (n - (1 + s) - N) (c - (1 + s) - N)) (T.drop N) := fun w' hb =>
            ⟨_, _, _, rfl, by omega, by unfold maxLen; omega, by rw [List.length_drop, hlen], hA3.bel hb⟩
          have HT1 : Hid (((T.take N).length : Int) ≤ 1099511627776) := by show _ ≤ _; rw [List.length_take, hlen]; omega
          have HT2 : Hid (((T.drop N).length : Int) ≤ 1099511627776) := by show _ ≤ _; rw [List.length_drop, hlen]; omega
          have C1 : Hid (Calls Tryd.prog 31 #[.slice (cutA (some ad) c (1 + s) 1) N (c - (1 + s))] w.drew fun e w' => ∃ v', e = .returned v' ∧ IsB w' v' (T.take N) ∧ Below w.heap.size w w') := by
            refine (clone_any _ _ _ HV1 HT1.out).mono ?_
            rintro e w' ⟨v', rfl, hv, hb⟩
            exact ⟨v', rfl, hv, ⟨hb.os, hb.tape, hb.output, hb.size, hb.block⟩⟩
          have C2 : Hid (∀ w1, Below w.heap.size w w1 → Calls Tryd.prog 31 #[.slice (cutA (cutA (some ad) c (1 + s) 1) (c - (1 + s)) N 1) (n - (1 + s) - N) (c - (1 + s) - N)] w1 fun e w' => ∃ v', e = .returned v' ∧ IsB w' v' (T.drop N) ∧ Below w1.heap.size w1 w') :=
            fun w1 hb => clone_any _ _ _ (HV2 w1 hb) HT2.out
          clear HV1 HV2
          have hb1 := hcap (by omega)
          have hb2 : (N : Int) ≤ ((n - (1 + s) : Nat) : Int) := by omega
          clear hcap hA2 hA3 hlen HO3 HT1 HT2
          go_wp2_with fail
          go_region_with (go_at_call 31; first
            | (refine C1.out.mono ?_; rintro e w1 ⟨v1, rfl, hv1, hbl1⟩; have HR1 := Lib.hid hv1; have HBL1 := Lib.hid hbl1; clear hv1 hbl1)
            | (refine (C2.out _ HBL1.out).mono ?_; rintro e w2 ⟨v2, rfl, hv2, hbl2⟩; have HR2 := Lib.hid hv2; have HBL2 := Lib.hid hbl2; clear hv2 hbl2))
          all_goals
            have HF := Lib.hid (HBL1.out.trans (HBL2.out.mono HBL1.out.size))
            have HR3 := Lib.hid (HR1.out.bel HBL2.out)
            go_wp2
            go_ret3
            rw [HO4.out]
            exact ⟨_, _, rfl, HR3.out, HR2.out, HF.out⟩
      · have HO2 := HO.out
        rw [htg] at HO2
        rw [htg]
        have HO3 := Lib.hid HO2
        clear htg HTG HO2 HO
        go_wp2_with fail
        go_ret3
        rw [HO3.out]
        exact ⟨_, _, rfl, IsB.nil_ _, IsB.nil_ _, Below.refl _ _⟩
      · have HO2 := HO.out
        rw [htg] at HO2
        rw [htg]
        have HO3 := Lib.hid HO2
        clear htg HTG HO2 HO
        go_wp2_with fail
        go_ret3
        rw [HO3.out]
        exact ⟨_, _, rfl, IsB.nil_ _, IsB.nil_ _, Below.refl _ _⟩
    · have HO := Lib.hid (open_other x tag t hx)
      have hne : ((x.toNat : Int) != (tag.toNat : Int)) = true := by
        rw [bne_iff_ne]
        intro h
        exact hx (UInt8.toNat_inj.1 (by omega))
      clear hA hx
      go_enter Tryd.func15, Tryd.ntmps15
      go_wp2_with fail
      go_ret3
      rw [HO.out]
      exact ⟨_, _, rfl, IsB.nil_ _, IsB.nil_ _, Below.refl _ _⟩
end Go.Proofs.YtlobajlodbdeiaaDoor
