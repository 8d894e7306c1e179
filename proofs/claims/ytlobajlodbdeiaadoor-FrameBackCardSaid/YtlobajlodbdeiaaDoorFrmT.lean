/- Contracts of package frame: Put, Take. -/
import Derived.Test.YtlobajlodbdeiaaDoorFrm
namespace Go.Proofs.YtlobajlodbdeiaaDoor
open Go.RowKit
set_option linter.unusedVariables false
set_option linter.unusedSimpArgs false
attribute [local go_sem ↓] sliced_cut
attribute [local go_sem] cutA_zero

set_option maxRecDepth 100000 in
set_option maxHeartbeats 1000000 in
theorem fput_any (m : Nat) (v : Value) (l : List UInt8) (w : World) (hm : (m : Int) ≤ 4294967295) (hv : IsB w v l) (hn : (l.length : Int) ≤ 1099511627776) (ht : Hid (Tab w)) :
    Calls Tryd.prog 17 #[.int .u32 (m : Int), v] w fun e w' => ∃ v', e = .returned v' ∧ w'.ownsRow w.heap.size 5 1 v' (l.length + 8) (vals (frameN m l)) ∧ Below w.heap.size w w' := by
  obtain ⟨A, n, c, rfl, hnc, hcm, hl, hA⟩ := hv
  rw [hl] at hn
  rw [hl]
  have HA := Lib.hid hA
  have HX : Hid ((vals l).length = n) := by show _ = _; rw [vals_length]; exact hl
  have HWD := fun W => word_any m W hm
  have HW := Lib.hid HWD
  obtain ⟨i0, hi0, hz0, hz1, hz2⟩ := info_parts byte_info
  have hmk : ∀ W, (Instr.makeSlice 22 (.int .i64 0) (.int .i64 (4 + (n : Int) + 4))).run Tryd.prog W = .ok (.slice (some ⟨W.heap.size, 0, none⟩) 0 (4 + n + 4)) (W.alloc (.cells (madeCells #[.int .u8 0] (4 + n + 4)) 5)) := fun W => by
    have := run_make (P := Tryd.prog) W 22 5 i0 (.int .u8 0) Tryd.underlying22 hi0 hz0 .i64 .i64 0 (4 + (n : Int) + 4) (by omega) (by omega) (by rw [hz2]; omega) (by omega)
    rw [this, hz1, show (4 + (n : Int) + 4).toNat = 4 + n + 4 from by omega, Int.toNat_zero, Nat.mul_one]
    rfl
  obtain ⟨B, hB⟩ : ∃ B, w.heap.size = B := ⟨_, rfl⟩
  have HI : Hid (Tryd.prog.info? 5 = some i0 ∧ i0.zero = some (.int .u8 0) ∧ i0.size = 1 ∧ i0.bytes = 1) := ⟨hi0, hz0, hz1, hz2⟩
  have HM : Hid ((w.alloc (.cells (madeCells #[.int .u8 0] (4 + n + 4)) 5)).ownsRow B 5 1 (.slice (some ⟨B, 0, none⟩) 0 (4 + n + 4)) 0 []) := by
    have := World.ownsRow_made (e := 5) (size := 1) w (madeCells #[.int .u8 0] (4 + n + 4)) (4 + n + 4) (Nat.le_refl _) (by unfold maxLen; omega) (by rw [size_madeCells, Nat.mul_one])
    rw [hB] at this
    exact this
  have HB1 : Hid (Below B w (w.alloc (.cells (madeCells #[.int .u8 0] (4 + n + 4)) 5))) := by rw [← hB]; exact (Below.refl w.heap.size w).alloc (Nat.le_refl _) _
  have HB := Lib.hid hB
  clear hl hA HWD hi0 hz0 hz1 hz2
  rw [hB]
  clear hB
  go_enter Tryd.func17, Tryd.ntmps17
  go_upto_region 2 with fail
  clear hmk
  rw [HB.out]
  generalize w.alloc (.cells (madeCells #[.int .u8 0] (4 + n + 4)) 5) = w1 at *
  go_wp2_with fail
  refine (HW.out w1).mono ?_
  rintro e w2 ⟨rfl, rfl⟩
  have HN := Lib.hid (Has.new w1 (vals (be 4 m)) 5 (0, 0))
  have HM2 := Lib.hid (HM.out.alloc (.cells (vals (be 4 m)).toArray 5))
  have hs1 : B ≤ w1.heap.size := by have := HB1.out.size; rw [HB.out] at this; exact this
  have HB2 := Lib.hid (HB1.out.alloc hs1 (.cells (vals (be 4 m)).toArray 5))
  have HL : Hid ((vals (be 4 m)).length = 4) := by show _ = _; rw [vals_length, be_length]
  have HS2 : Hid (B ≤ (w1.alloc (.cells (vals (be 4 m)).toArray 5)).heap.size) := by show _ ≤ _; simp; omega
  generalize w1.alloc (.cells (vals (be 4 m)).toArray 5) = w2 at *
  clear hs1 HW
  obtain ⟨hi0, hz0, hz1, hz2⟩ := HI.out
  go_upto_region 3 with (at_builtin; refine wpList_append_has _ rfl (.tmp 11) (.tmp 13) _ rfl B 5 i0 (.int .u8 0) 1 Tryd.underlying22 hi0 hz0 hz1 hz2 rfl (.slice (some ⟨B, 0, none⟩) 0 (4 + n + 4)) 0 [] rfl HM2.out _ 4 _ _ rfl HL.out HN.out (vals_one _) (by unfold maxLen; omega) (by omega) HS2.out ?_; intro v3 w3 hown3 hgrow3 _; have HO3 := Lib.hid hown3; have HG3 := Lib.hid hgrow3; clear hown3 hgrow3)
  have HB3 : Hid (Below B w w3) := HB2.out.grown HG3.out HS2.out (fun q hq => (HM2.out.lt q hq).1)
  have HS3 : Hid (B ≤ w3.heap.size) := by have := HB3.out.size; rw [HB.out] at this; exact this
  have HA3 : Hid (Has w3 A (vals l)) := HA.out.below HB3.out (by rw [HB.out]; exact Nat.le_refl _)
  clear HG3 HM2 HN HL HS2 HB2 HB1 HM
  go_wp2_with (at_builtin; refine wpList_append_has _ rfl (.tmp 15) (.tmp 16) _ rfl B 5 i0 (.int .u8 0) 1 Tryd.underlying22 hi0 hz0 hz1 hz2 rfl v3 (0 + 4) _ rfl HO3.out A n _ _ rfl HX.out HA3.out (vals_one _) (by unfold maxLen; omega) (by omega) HS3.out ?_; intro v4 w4 hown4 hgrow4 _; have HO4 := Lib.hid hown4; have HG4 := Lib.hid hgrow4; clear hown4 hgrow4)
  have HB4 : Hid (Below B w w4) := HB3.out.grown HG4.out HS3.out (fun q hq => (HO3.out.lt q hq).1)
  have HS4 : Hid (B ≤ w4.heap.size) := by have := HB4.out.size; rw [HB.out] at this; exact this
  have HO5 : Hid (w4.ownsRow B 5 1 v4 (4 + n) (vals (be 4 m ++ l))) := by
    have h := HO4.out
    rw [List.nil_append, ← vals_append, Nat.zero_add] at h
    exact h
  have HT4 : Hid (Tab w4) := ht.out.bel (by rw [HB.out]; exact HB4.out)
  refine (seal_own B v4 (4 + n) (be 4 m ++ l) w4 HO5.out HS4.out (by omega) HT4).mono ?_
  rintro e w5 ⟨v5, rfl, hown5, hb5⟩
  have HO6 := Lib.hid hown5
  have HB5 := Lib.hid (HB4.out.trans hb5)
  clear hown5 hb5
  go_wp2_with fail
  go_ret
  refine ⟨_, rfl, ?_, HB5.out⟩
  have h := HO6.out
  rw [show 4 + n + 4 = n + 8 from by omega] at h
  exact h
set_option maxRecDepth 100000 in
set_option maxHeartbeats 1000000 in
theorem ftake_any (m : Nat) (v : Value) (l : List UInt8) (w : World) (hm : (m : Int) ≤ 4294967295) (hv : IsB w v l) (hn : (l.length : Int) ≤ 1099511627776) (ht : Hid (Tab w)) :
    Calls Tryd.prog 10 #[.int .u32 (m : Int), v] w fun e w' => ∃ v', e = .returned (.tuple #[v', .int .i64 (takeF m l).2]) ∧ IsB w' v' (takeF m l).1 ∧ Below w.heap.size w w' := by
  obtain ⟨A, n, c, rfl, hnc, hcm, hl, hA⟩ := hv
  rw [hl] at hn
  have hcm' := hcm
  unfold maxLen at hcm'
  have hTF : takeF m l = (if n < 8 then ([], 2) else if l.take 4 ≠ be 4 m then ([], 5) else if sealN (l.take (n - 4)) ≠ l then ([], 6) else ((l.take (n - 4)).drop 4, 0)) := by rw [takeF, hl]
  have HTF := Lib.hid hTF
  clear hTF
  have HL := Lib.hid hl
  have HA := Lib.hid hA
  have HC := Lib.hid hcm
  clear hl hA
  by_cases h8 : (n : Int) < 8
  · have HF : Hid (takeF m l = ([], 2)) := by show _ = _; rw [HTF.out, if_pos (by omega)]
    have h84 : (n : Int) - 4 < 4 := by omega
    go_enter Tryd.func10, Tryd.ntmps10
    go_wp2_with fail
    go_ret2
    rw [HF.out]
    exact ⟨_, rfl, IsB.nil_ _, Below.refl _ _⟩
  · have HW := Lib.hid (word_any m w hm)
    have h84 : decide ((n : Int) - 4 < 4) = false := decide_eq_false (by omega)
    go_enter Tryd.func10, Tryd.ntmps10
    go_wp2_with fail
    refine HW.out.mono ?_
    rintro e w1 ⟨rfl, rfl⟩
    have HB1 := Lib.hid ((Below.refl w.heap.size w).alloc (Nat.le_refl _) (.cells (vals (be 4 m)).toArray 5))
    have HN := Lib.hid (IsB.new w (be 4 m) 5 (0, 0) 4 (be_length _ _) (by unfold maxLen; omega))
    generalize w.alloc (.cells (vals (be 4 m)).toArray 5) = w1 at *
    have HA1 := Lib.hid (HA.out.bel HB1.out)
    have HV1 : Hid (IsB w1 (.slice A n c) l) := ⟨_, _, _, rfl, hnc, HC.out, HL.out, HA1.out⟩
    have HT1 := Lib.hid (ht.out.bel HB1.out)
    go_wp2_with fail
    refine (prefix_any _ _ _ _ _ HV1.out HN.out).mono ?_
    rintro e w' ⟨rfl, rfl⟩
    by_cases h4 : l.take 4 = be 4 m
    · rw [show (decide ((be 4 m).length ≤ l.length) && (l.take (be 4 m).length == be 4 m)) = true from by rw [be_length, h4, HL.out]; simp; omega]
      have H1 : Hid (Has w1 A (vals (l.take (n - 4)))) := by rw [vals_take]; exact HA1.out.take _
      have H1L : Hid ((l.take (n - 4)).length = n - 4) := by show _ = _; rw [List.length_take, HL.out]; omega
      have HTF2 : Hid (takeF m l = (if sealN (l.take (n - 4)) ≠ l then ([], 6) else ((l.take (n - 4)).drop 4, 0))) := by
        show _ = _
        rw [HTF.out, if_neg (by omega), if_neg (by simp [h4])]
      clear h4 HN HTF
      have hsub : (0 : Int) ≤ (n : Int) - 4 := by omega
      have hsc : (n : Int) - 4 ≤ (c : Int) := by omega
      have htn : ((n : Int) - 4).toNat = n - 4 := by omega
      go_wp2_with fail
      refine (seal_full A (n - 4) (l.take (n - 4)) w1 (by omega) H1L.out H1.out (by omega) HT1).mono ?_
      rintro e w2 ⟨v2, rfl, hown2, hb2⟩
      rw [show n - 4 + 4 = n from by omega] at hown2
      have HB2 := Lib.hid (HB1.out.trans (hb2.mono HB1.out.size))
      have HV2 : Hid (IsB w2 (.slice A n c) l) := HV1.out.bel hb2
      have hl2 : (sealN (l.take (n - 4))).length = n := by rw [sealN_length, H1L.out]; omega
      obtain ⟨g, cap, rfl, hnc2, hcap2⟩ : ∃ g cap, v2 = .slice (some ⟨g, 0, none⟩) n cap ∧ n ≤ cap ∧ cap ≤ maxLen := by
        rcases hown2.2 with ⟨rfl, h⟩ | ⟨g, cap, cur, rfl, _, _, hnc2, hcap2, _⟩
        · omega
        · exact ⟨g, cap, rfl, hnc2, hcap2⟩
      have HO2 := Lib.hid (IsB.of_own hown2)
      have HH2 := Lib.hid (Has.of_own hown2)
      clear hown2 hb2 hcap2
      go_wp2_with fail
      refine (equal_any _ _ _ _ _ HO2.out HV2.out).mono ?_
      rintro e w' ⟨rfl, rfl⟩
      by_cases hs : sealN (l.take (n - 4)) = l
      · have HF : Hid (takeF m l = ((l.take (n - 4)).drop 4, 0)) := by show _ = _; rw [HTF2.out, if_neg (by simp [hs])]
        rw [hs] at HH2
        rw [hs, beq_self_eq_true]
        have HH3 : Hid (Has w2 (cutA (some ⟨g, 0, none⟩) (n - 4) 4 1) (vals ((l.take (n - 4)).drop 4))) := by
          rw [vals_drop, vals_take]
          exact (HH2.out.take (n - 4)).cutA (by rw [List.length_take]; omega)
        have hs4 : (4 : Int) ≤ (n : Int) - 4 := by omega
        have hs5 : (n : Int) - 4 ≤ (cap : Int) := by omega
        clear hs HTF2 HH2 HO2 HV2 hl2
        go_wp2_with fail
        go_ret2
        rw [HF.out]
        refine ⟨_, rfl, ⟨_, _, _, rfl, Nat.le_refl _, by unfold maxLen; omega, ?_, HH3.out⟩, HB2.out⟩
        rw [List.length_drop, H1L.out]
      · have HF : Hid (takeF m l = ([], 6)) := by show _ = _; rw [HTF2.out, if_pos hs]
        rw [show (sealN (l.take (n - 4)) == l) = false from by simp [hs]]
        clear hs HTF2 HH2 HO2 HV2 hl2
        go_wp2_with fail
        go_ret2
        rw [HF.out]
        exact ⟨_, rfl, IsB.nil_ _, HB2.out⟩
    · rw [show (decide ((be 4 m).length ≤ l.length) && (l.take (be 4 m).length == be 4 m)) = false from by rw [be_length]; simp [h4]]
      have HF : Hid (takeF m l = ([], 5)) := by show _ = _; rw [HTF.out, if_neg (by omega), if_pos h4]
      clear h4 HN HTF
      go_wp2_with fail
      go_ret2
      rw [HF.out]
      exact ⟨_, rfl, IsB.nil_ _, HB1.out⟩
end Go.Proofs.YtlobajlodbdeiaaDoor
