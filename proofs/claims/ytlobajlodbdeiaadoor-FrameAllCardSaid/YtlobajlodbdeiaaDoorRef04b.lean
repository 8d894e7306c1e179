/- Contracts of package theseusref04: Section, Open. -/
import Derived.Test.YtlobajlodbdeiaaDoorRef04
namespace Go.Proofs.YtlobajlodbdeiaaDoor
open Go.RowKit
set_option linter.unusedVariables false
set_option linter.unusedSimpArgs false
attribute [local go_sem ↓] sliced_cut
attribute [local go_sem] cutA_zero

set_option maxRecDepth 100000 in
set_option maxHeartbeats 1000000 in
theorem rsection_any (tag : UInt8) (v : Value) (l : List UInt8) (w : World) (hv : IsB w v l) (hn : (l.length : Int) ≤ 1099511627776) :
    Calls Tryd.prog 14 #[.int .u8 (tag.toNat : Int), v] w fun e w' =>
    ∃ v', e = .returned (.tuple #[v', .int .i64 (sectF tag l).2]) ∧ IsB w' v' (sectF tag l).1 ∧ Below w.heap.size w w' := by
  obtain ⟨A, n, c, rfl, hnc, hcm, hl, hA⟩ := hv
  have HA := Lib.hid hA
  have HL := Lib.hid hl
  rw [hl] at hn
  clear hA
  by_cases hb : (n : Int) ≤ 268435455
  · have HS : Hid (sectF tag l = (tag :: (grp n ++ l), 0)) := by show _ = _; rw [sectF, hl, if_pos (by omega)]
    clear hl
    have hpg : putG (n : Int) = (grp n, 0) := by rw [putG, if_pos ⟨by omega, hb⟩]; rfl
    have RG := rgput_any (n : Int) w
    rw [hpg] at RG
    have HRG := Lib.hid RG
    clear RG hpg
    obtain ⟨s, Hs, hs1, hs2⟩ : ∃ s : Nat, Hid (gsize n = s) ∧ 1 ≤ (s : Int) ∧ (s : Int) ≤ 4 := ⟨gsize n, rfl, by have := gsize_pos n; omega, by have := gsize_pos n; omega⟩
    go_enter Tryd.func14, Tryd.ntmps14
    go_wp2_with fail
    refine HRG.out.mono ?_
    rintro e w1 ⟨v1, rfl, hv1, hb1⟩
    obtain ⟨A1, n1, c1, rfl, hnc1, hcm1, hl1, hA1⟩ := hv1
    obtain rfl : s = n1 := by rw [← hl1, grp_length]; exact Hs.out.symm
    have HG1 := Lib.hid hA1
    have HB1 := Lib.hid hb1
    have HGL : Hid ((vals (grp n)).length = s) := by show _ = _; rw [vals_length]; exact hl1
    have HXL : Hid ((vals l).length = n) := by show _ = _; rw [vals_length]; exact HL.out
    have HA1 := Lib.hid (HA.out.bel hb1)
    have HOT : Hid ((w1.alloc (.cells #[.int .u8 (tag.toNat : Int)] 5)).ownsRow w1.heap.size 5 1 (.slice (some ⟨w1.heap.size, 0, none⟩) 1 1) 1 (vals [tag])) := World.ownsRow_lit (e := 5) (size := 1) w1 #[.int .u8 (tag.toNat : Int)] 1 (Nat.le_refl _) (by decide) rfl
    obtain ⟨i0, hi0, hz0, hz1, hz2⟩ := info_parts byte_info
    clear hb1 hA1 hl1 hcm1
    go_wp2_with (first
      | (at_builtin; refine wpList_append_has _ rfl (.tmp 18) (.tmp 19) _ rfl w1.heap.size 5 i0 (.int .u8 0) 1 Tryd.underlying22 hi0 hz0 hz1 hz2 rfl (.slice (some ⟨w1.heap.size, 0, none⟩) 1 1) 1 _ rfl HOT.out A1 s c1 _ rfl HGL.out (HG1.out.alloc _) (vals_one _) (by unfold maxLen; omega) (by omega) (by simp) ?_; intro v2 w2 hown2 hgrow2 _; have HO2 := Lib.hid hown2; have HB2 : Hid (Below w1.heap.size w1 w2) := ((Below.refl _ _).alloc (Nat.le_refl _) _).grown hgrow2 (by simp) (fun q hq => (HOT.out.lt q hq).1); have HA2 := Lib.hid (HA1.out.bel HB2.out); have HS2 := Lib.hid HB2.out.size; clear hown2 hgrow2)
      | (at_builtin; refine wpList_append_has _ rfl (.tmp 20) (.tmp 21) _ rfl w1.heap.size 5 i0 (.int .u8 0) 1 Tryd.underlying22 hi0 hz0 hz1 hz2 rfl v2 (1 + s) _ rfl HO2.out A n c _ rfl HXL.out HA2.out (vals_one _) (by unfold maxLen; omega) (by omega) HS2.out ?_; intro v3 w3 hown3 hgrow3 _; have HO3 := Lib.hid hown3; have HB3 : Hid (Below w1.heap.size w1 w3) := HB2.out.grown hgrow3 HS2.out (fun q hq => (HO2.out.lt q hq).1); clear hown3 hgrow3))
    go_ret2
    rw [HS.out]
    refine ⟨_, rfl, ?_, HB1.out.trans (HB3.out.mono HB1.out.size)⟩
    have h := HO3.out
    rw [← vals_append, ← vals_append] at h
    exact IsB.of_own h
  · have HS : Hid (sectF tag l = ([], 1)) := by show _ = _; rw [sectF, hl, if_neg (by omega)]
    clear hl
    go_enter Tryd.func14, Tryd.ntmps14
    go_wp2_with fail
    refine (rgput_no n w (by omega)).mono ?_
    rintro e w1 ⟨rfl, rfl⟩
    go_wp2_with fail
    go_ret2
    rw [HS.out]
    exact ⟨_, rfl, IsB.nil_ _, Below.refl _ _⟩
set_option maxRecDepth 100000 in
set_option maxHeartbeats 2000000 in
theorem ropen_any (tag : UInt8) (v : Value) (l : List UInt8) (w : World) (hv : IsB w v l) (hn : (l.length : Int) ≤ 1099511627776) :
    Calls Tryd.prog 16 #[.int .u8 (tag.toNat : Int), v] w fun e w' =>
    ∃ a b, e = .returned (.tuple #[a, b, .int .i64 (openF tag l).2.2]) ∧ IsB w' a (openF tag l).1 ∧ IsB w' b (openF tag l).2.1 ∧ Below w.heap.size w w' := by
  obtain ⟨A, n, c, rfl, hnc, hcm, hl, hA⟩ := hv
  rcases l with _ | ⟨x, t⟩
  · simp only [List.length_nil] at hl
    subst hl
    clear hA
    go_enter Tryd.func16, Tryd.ntmps16
    go_wp2_with fail
    go_ret3
    exact ⟨_, _, rfl, IsB.nil_ _, IsB.nil_ _, Below.refl _ _⟩
  · have hm : t.length = n - 1 := by rw [← hl]; rfl
    have hn1 : 1 ≤ (n : Int) := by rw [← hl, List.length_cons]; omega
    rw [hl] at hn
    have HL := Lib.hid hl
    clear hl
    obtain ⟨ad, rfl, hcell⟩ := hA.at_ (k := 0) (by simp [vals])
    have hcell0 : w.cell? ad = some (.int .u8 (x.toNat : Int)) := by rw [addr_zero] at hcell; exact hcell
    clear hcell
    have hcm' := hcm
    unfold maxLen at hcm'
    by_cases hx : x = tag
    · subst hx
      have hA1 := hA.cutA (k := 1) (cap := c) (by rw [vals_length, HL.out]; exact hnc)
      rw [← vals_drop, List.drop_succ_cons, List.drop_zero] at hA1
      have HAT := Lib.hid hA1
      have HLT : Hid (t.length = n - 1) := hm
      have HA := Lib.hid hA
      have HTG := Lib.hid (taken_grp t)
      have hO : openF x (x :: t) = (if (takeG t).2.2 ≠ 0 then ([], [], (takeG t).2.2)
        else if ((t.drop (takeG t).2.1.toNat).length : Int) < (takeG t).1 then ([], [], 2)
        else ((t.drop (takeG t).2.1.toNat).take (takeG t).1.toNat, (t.drop (takeG t).2.1.toNat).drop (takeG t).1.toNat, 0)) := by
        rw [openF, if_neg (by simp)]
      have HO := Lib.hid hO
      clear hO hA hA1 hm
      have hne : ((x.toNat : Int) != (x.toNat : Int)) = false := by simp
      go_enter Tryd.func16, Tryd.ntmps16
      go_wp2_with fail
      refine (rgtake_core _ _ _ t _ HLT (by omega) (by unfold maxLen; omega) HAT).mono ?_
      rintro e w' ⟨rfl, rfl⟩
      rcases HTG.out with ⟨N, hN, htg, hsl, htk⟩ | htg | ⟨htg, hl4⟩
      · obtain ⟨s, HS, hs1, hs2⟩ : ∃ s : Nat, Hid (gsize N = s) ∧ 1 ≤ (s : Int) ∧ (s : Int) ≤ 4 := ⟨gsize N, rfl, by have := gsize_pos N; omega, by have := gsize_pos N; omega⟩
        rw [HS.out, HLT.out] at hsl
        have HO2 := HO.out
        rw [htg, HS.out] at HO2
        rw [htg, HS.out]
        simp only [ne_eq, not_true_eq_false, if_false, Int.toNat_natCast, List.length_drop, HLT.out] at HO2
        have HO3 := Lib.hid HO2
        have hN' : (N : Int) ≤ 268435455 := by omega
        clear htg htk HTG HO2 HO hN
        by_cases hlt : n - (1 + s) < N
        · have HO4 : Hid (openF x (x :: t) = ([], [], 2)) := by
            show _ = _
            rw [HO3.out, if_pos (by omega)]
          have hltI : decide ((n : Int) - 1 - (s : Int) < (N : Int)) = true := decide_eq_true (by omega)
          clear HO3
          go_wp2_with fail
          go_ret3
          rw [HO4.out]
          exact ⟨_, _, rfl, IsB.nil_ _, IsB.nil_ _, Below.refl _ _⟩
        · have HO4' : Hid (openF x (x :: t) = ((t.drop s).take N, (t.drop s).drop N, 0)) := by
            show _ = _
            rw [HO3.out, if_neg (by omega)]
          have hltI : decide ((n : Int) - 1 - (s : Int) < (N : Int)) = false := decide_eq_false (by omega)
          have hA2 : Has w (cutA (some ad) c (1 + s) 1) (vals ((t.drop s).take N)) := by
            have h := (HA.out.cutA (k := 1 + s) (cap := c) (by rw [vals_length, HL.out]; exact hnc)).take N
            rw [← vals_drop, ← vals_take, Nat.add_comm 1 s, List.drop_succ_cons] at h
            rw [Nat.add_comm 1 s]
            exact h
          have hA3 : Has w (cutA (some ad) c (1 + s + N) 1) (vals ((t.drop s).drop N)) := by
            have h := HA.out.cutA (k := 1 + s + N) (cap := c) (by rw [vals_length, HL.out]; exact hnc)
            rw [← vals_drop, show 1 + s + N = (s + N) + 1 from by omega, List.drop_succ_cons, ← List.drop_drop] at h
            rw [show 1 + s + N = (s + N) + 1 from by omega]
            exact h
          have HA2 := Lib.hid hA2
          have HA3 := Lib.hid hA3
          have HL2 : Hid ((vals ((t.drop s).take N)).length = N) := by show _ = _; rw [vals_length, List.length_take, List.length_drop, HLT.out]; omega
          have HL3 : Hid ((vals ((t.drop s).drop N)).length = n - (1 + s + N)) := by show _ = _; rw [vals_length, List.length_drop, List.length_drop, HLT.out]; omega
          clear hA2 hA3 HO3
          obtain ⟨s1, hs1e⟩ : ∃ s1, 1 + s = s1 := ⟨_, rfl⟩
          obtain ⟨s2, hs2e⟩ : ∃ s2, s1 + N = s2 := ⟨_, rfl⟩
          have hw1 : IntKind.i64.wrap (1 + (s : Int)) = (s1 : Int) := by rw [IntKind.wrap_i64]; omega
          have hw2 : IntKind.i64.wrap ((s1 : Int) + (N : Int)) = (s2 : Int) := by rw [IntKind.wrap_i64]; omega
          rw [hs1e] at HA2 HA3 HL3
          rw [hs2e] at HA3 HL3
          have h12 : (s1 : Int) ≤ (s2 : Int) := by omega
          have h1n : (s2 : Int) ≤ (n : Int) := by omega
          have h1c : (s2 : Int) ≤ (c : Int) := by omega
          have HL2' : Hid ((vals ((t.drop s).take N)).length = s2 - s1) := by show _ = _; rw [HL2.out]; omega
          generalize (t.drop s).take N = I at *
          generalize (t.drop s).drop N = R at *
          have hsz : s2 - s1 = N := by omega
          have HOE : Hid (∀ (wx : World) (g : Nat), wx.heap[g]? = some (.cells #[] 5 (0, 0)) → w.heap.size ≤ g → wx.ownsRow w.heap.size 5 1 (.slice (some ⟨g, 0, none⟩) 0 0) 0 []) := fun wx g h1 h2 =>
            ⟨rfl, .inr ⟨g, 0, #[], rfl, h2, h1, Nat.le_refl _, by decide, rfl, rfl⟩⟩
          obtain ⟨i0, hi0, hz0, hz1, hz2⟩ := info_parts byte_info
          go_wp2_with fail
          have EA : Hid (((w.alloc (.cells #[] 5)).drew).heap[w.heap.size]? = some (.cells #[] 5 (0, 0))) := heap_alloc_new w _
          have EB0 : Hid ((((w.alloc (.cells #[] 5)).alloc (.cells #[] 5)).drew).heap[w.heap.size]? = some (.cells #[] 5 (0, 0))) := by
            show ((w.alloc (.cells #[] 5)).alloc (.cells #[] 5)).heap[w.heap.size]? = _
            rw [heap_alloc_old _ _ (by simp)]
            exact heap_alloc_new w _
          have EB1 : Hid ((((w.alloc (.cells #[] 5)).alloc (.cells #[] 5)).drew).heap[w.heap.size + 1]? = some (.cells #[] 5 (0, 0))) := by
            show ((w.alloc (.cells #[] 5)).alloc (.cells #[] 5)).heap[w.heap.size + 1]? = _
            have := heap_alloc_new (w.alloc (.cells #[] 5)) (.cells #[] 5)
            rw [World.size_alloc] at this
            exact this
          go_region_held3 (fun w' => True) (trivial)
            (first
            | ((refine step_append_has _ (by rfl) (.tmp 35) (.tmp 43) _ (by rfl) w.heap.size 5 i0 (.int .u8 0) 1 Tryd.underlying22 hi0 hz0 hz1 hz2 rfl (.slice (some ⟨w.heap.size, 0, none⟩) 0 0) 0 [] (by rfl) (HOE.out _ _ ?_ (by omega)) (cutA (some ad) c s1 1) N (c - s1) (vals I) (by rfl) HL2.out ?_ (vals_one _) (by unfold maxLen; omega) (by omega) ?_ ?_
                · first | exact EA.out | exact EB0.out | exact EB1.out
                · first | exact (HA2.out.alloc _).drew | exact ((HA2.out.alloc _).alloc _).drew
                · first | (simp; done) | (simp; omega)
                intro v3 w3 hown3 hgrow3 hat3
                have HO3 := Lib.hid hown3
                have HB3 : Hid (Below w.heap.size w w3) := by
                  first
                    | exact ((Below.refl _ _).alloc (Nat.le_refl _) _).drew.grown hgrow3 (by simp) (by intro g hg; simp [Value.ownBlock] at hg; omega)
                    | exact (((Below.refl _ _).alloc (Nat.le_refl _) _).alloc (by simp) _).drew.grown hgrow3 (by simp; omega) (by intro g hg; simp [Value.ownBlock] at hg; omega)
                have HZ3 := Lib.hid HB3.out.size
                have HA33 := Lib.hid (HA3.out.bel HB3.out)))
            | ((refine step_append_has _ (by rfl) (.tmp 35) (.tmp 43) _ (by rfl) w.heap.size 5 i0 (.int .u8 0) 1 Tryd.underlying22 hi0 hz0 hz1 hz2 rfl (.slice (some ⟨w.heap.size + 1, 0, none⟩) 0 0) 0 [] (by rfl) (HOE.out _ _ ?_ (by omega)) (cutA (some ad) c s1 1) N (c - s1) (vals I) (by rfl) HL2.out ?_ (vals_one _) (by unfold maxLen; omega) (by omega) ?_ ?_
                · first | exact EA.out | exact EB0.out | exact EB1.out
                · first | exact (HA2.out.alloc _).drew | exact ((HA2.out.alloc _).alloc _).drew
                · first | (simp; done) | (simp; omega)
                intro v3 w3 hown3 hgrow3 hat3
                have HO3 := Lib.hid hown3
                have HB3 : Hid (Below w.heap.size w w3) := by
                  first
                    | exact ((Below.refl _ _).alloc (Nat.le_refl _) _).drew.grown hgrow3 (by simp) (by intro g hg; simp [Value.ownBlock] at hg; omega)
                    | exact (((Below.refl _ _).alloc (Nat.le_refl _) _).alloc (by simp) _).drew.grown hgrow3 (by simp; omega) (by intro g hg; simp [Value.ownBlock] at hg; omega)
                have HZ3 := Lib.hid HB3.out.size
                have HA33 := Lib.hid (HA3.out.bel HB3.out)))
            | ((refine step_append_has _ (by rfl) (.tmp 45) (.tmp 51) _ (by rfl) w.heap.size 5 i0 (.int .u8 0) 1 Tryd.underlying22 hi0 hz0 hz1 hz2 rfl (.slice (some ⟨w3.heap.size, 0, none⟩) 0 0) 0 [] (by rfl) (HOE.out _ _ ?_ ?_) (cutA (some ad) c s2 1) (n - s2) (c - s2) (vals R) (by rfl) HL3.out ?_ (vals_one _) (by unfold maxLen; omega) (by omega) ?_ ?_
                · exact heap_alloc_new w3 _
                · have := HZ3.out; omega
                · first | exact HA33.out | exact HA33.out.alloc _
                · have := HZ3.out; first | (simp; done) | (simp; omega) | omega
                intro v4 w4 hown4 hgrow4 hat4
                have HO4 := Lib.hid hown4))
            | ((refine step_append_has _ (by rfl) (.tmp 45) (.tmp 51) _ (by rfl) w.heap.size 5 i0 (.int .u8 0) 1 Tryd.underlying22 hi0 hz0 hz1 hz2 rfl (.slice (some ⟨w.heap.size + 1, 0, none⟩) 0 0) 0 [] (by rfl) (HOE.out _ _ ?_ ?_) (cutA (some ad) c s2 1) (n - s2) (c - s2) (vals R) (by rfl) HL3.out ?_ (vals_one _) (by unfold maxLen; omega) (by omega) ?_ ?_
                · rw [hgrow3.block _ (by simp) (by simp [Value.ownBlock])]; exact EB1.out
                · have := HZ3.out; omega
                · first | exact HA33.out | exact HA33.out.alloc _
                · have := HZ3.out; first | (simp; done) | (simp; omega) | omega
                intro v4 w4 hown4 hgrow4 hat4
                have HO4 := Lib.hid hown4))
            | ((refine step_append_has _ (by rfl) (.tmp 45) (.tmp 51) _ (by rfl) w.heap.size 5 i0 (.int .u8 0) 1 Tryd.underlying22 hi0 hz0 hz1 hz2 rfl (.slice (some ⟨w.heap.size, 0, none⟩) 0 0) 0 [] (by rfl) (HOE.out _ _ ?_ ?_) (cutA (some ad) c s2 1) (n - s2) (c - s2) (vals R) (by rfl) HL3.out ?_ (vals_one _) (by unfold maxLen; omega) (by omega) ?_ ?_
                · rw [hgrow3.block _ (by simp; omega) (by simp [Value.ownBlock])]; exact EB0.out
                · have := HZ3.out; omega
                · first | exact HA33.out | exact HA33.out.alloc _
                · have := HZ3.out; first | (simp; done) | (simp; omega) | omega
                intro v4 w4 hown4 hgrow4 hat4
                have HO4 := Lib.hid hown4)))
          all_goals
            have HB4 : Hid (Below w.heap.size w w4) := by
              first
                | exact HB3.out.grown hgrow4 HZ3.out (by intro g hg; simp [Value.ownBlock] at hg; omega)
                | exact (HB3.out.alloc HZ3.out _).grown hgrow4 (by have := HZ3.out; simp; omega) (by intro g hg; simp [Value.ownBlock] at hg; have := HZ3.out; omega)
            have HI4 : Hid (IsB w4 v3 I) := by
              have h : w4.ownsRow w.heap.size 5 1 v3 (0 + N) ([] ++ vals I) := by
                first
                  | exact (HO3.out.alloc _).kept hgrow4 (.inr (fun h => by
                      have h2 := (HO3.out.lt _ h).2
                      exact absurd h2 (Nat.lt_irrefl _)))
                  | exact HO3.out.kept hgrow4 (.inr (fun h => by
                      rcases hat3 with h3 | h3
                      · rw [h3] at h; simp [Value.ownBlock] at h <;> omega
                      · rw [h3] at h; simp [Value.ownBlock] at h <;> omega))
              rw [List.nil_append] at h
              exact IsB.of_own h
            have HR4 : Hid (IsB w4 v4 R) := by
              have h := HO4.out
              rw [List.nil_append] at h
              exact IsB.of_own h
            clear hgrow3 hat3 hgrow4 hat4 hown3 hown4 HO3 HO4
            go_wp2
            go_ret3
            rw [HO4'.out]
            exact ⟨_, _, rfl, HI4.out, HR4.out, HB4.out⟩
      · have HO2 := HO.out
        rw [htg] at HO2
        rw [htg]
        have HO3 := Lib.hid HO2
        clear htg HTG HO2 HO
        go_wp2_with fail
        go_ret3
        rw [HO3.out]
        exact ⟨_, _, rfl, IsB.nil_ _, IsB.nil_ _, Below.refl _ _⟩
      · have HO2 := HO.out
        rw [htg] at HO2
        rw [htg]
        have HO3 := Lib.hid HO2
        clear htg HTG HO2 HO
        go_wp2_with fail
        go_ret3
        rw [HO3.out]
        exact ⟨_, _, rfl, IsB.nil_ _, IsB.nil_ _, Below.refl _ _⟩
    · have HO := Lib.hid (open_other x tag t hx)
      have hne : ((x.toNat : Int) != (tag.toNat : Int)) = true := by
        rw [bne_iff_ne]
        intro h
        exact hx (UInt8.toNat_inj.1 (by omega))
      clear hA hx
      go_enter Tryd.func16, Tryd.ntmps16
      go_wp2_with fail
      go_ret3
      rw [HO.out]
      exact ⟨_, _, rfl, IsB.nil_ _, IsB.nil_ _, Below.refl _ _⟩
end Go.Proofs.YtlobajlodbdeiaaDoor
