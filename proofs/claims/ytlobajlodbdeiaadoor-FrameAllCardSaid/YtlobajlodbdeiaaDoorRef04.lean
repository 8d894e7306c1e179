/- Contracts of package theseusref04 (the document's answers for layer 4). -/
import Derived.Test.YtlobajlodbdeiaaDoorFrmMath
import Derived.Test.YtlobajlodbdeiaaDoorRef01
import Derived.Test.YtlobajlodbdeiaaDoorRef02
import Derived.Test.YtlobajlodbdeiaaDoorRef03
import Derived.Deep.DeepCutAuto
import Derived.Deep.RegionHeld3
namespace Go.Proofs.YtlobajlodbdeiaaDoor
open Go.RowKit
set_option linter.unusedVariables false
set_option linter.unusedSimpArgs false
attribute [local go_sem ↓] sliced_cut
attribute [local go_sem] cutA_zero

theorem rword (n : Nat) (w : World) (h : (n : Int) ≤ 4294967295) : Calls Tryd.prog 33 #[.int .i64 n, .int .i64 4] w fun e w' =>
    ∃ v, e = .returned (.tuple #[v, .int .i64 0]) ∧ w'.ownsRow w.heap.size 5 1 v 4 (vals (be 4 n)) ∧ Below w.heap.size w w' := by
  have hp : putS (n : Int) ((4 : Nat) : Int) = (be 4 n, 0) := by
    rw [putS, if_pos ⟨by omega, by omega, by simp; omega⟩]
    rfl
  have h1 := rput_pos n 4 w (show n < _ by omega) (by omega) (by omega)
  rw [hp] at h1
  refine h1.mono ?_
  rintro e w' ⟨v, rfl, ho, hb⟩
  simp only [be_length] at ho
  exact ⟨v, rfl, ho, hb⟩
set_option maxRecDepth 100000 in
set_option maxHeartbeats 1000000 in
theorem rfput_any (m : Nat) (v : Value) (l : List UInt8) (w : World) (hm : (m : Int) ≤ 4294967295) (hv : IsB w v l) (hn : (l.length : Int) ≤ 1099511627776) :
    Calls Tryd.prog 18 #[.int .u32 (m : Int), v] w fun e w' => ∃ v', e = .returned v' ∧ IsB w' v' (frameN m l) ∧ Below w.heap.size w w' := by
  obtain ⟨A, n, c, rfl, hnc, hcm, hl, hA⟩ := hv
  rw [hl] at hn
  have HA := Lib.hid hA
  have HX : Hid ((vals l).length = n) := by show _ = _; rw [vals_length]; exact hl
  have hs : ((sumN (be 4 m ++ l) : Nat) : Int) ≤ 4294967295 := by have := sumN_le (be 4 m ++ l); omega
  clear hl hA
  go_enter Tryd.func18, Tryd.ntmps18
  go_wp2_with fail
  refine (rword m w hm).mono ?_
  rintro e w1 ⟨v1, rfl, ho1, hb1⟩
  have HO1 := Lib.hid ho1
  have HB1 := Lib.hid hb1
  have HA1 := Lib.hid (HA.out.bel hb1)
  have HZ1 := Lib.hid hb1.size
  clear ho1 hb1
  obtain ⟨i0, hi0, hz0, hz1, hz2⟩ := info_parts byte_info
  go_wp2_with (at_builtin; refine wpList_append_has _ rfl (.tmp 15) (.tmp 16) _ rfl w.heap.size 5 i0 (.int .u8 0) 1 Tryd.underlying22 hi0 hz0 hz1 hz2 rfl v1 4 _ rfl HO1.out A n _ _ rfl HX.out HA1.out (vals_one _) (by unfold maxLen; omega) (by omega) HZ1.out ?_; intro v2 w2 hown2 hgrow2 _; have HO2 := Lib.hid hown2; have HG2 := Lib.hid hgrow2; clear hown2 hgrow2)
  have HB2 : Hid (Below w.heap.size w w2) := HB1.out.grown HG2.out HZ1.out (fun q hq => (HO1.out.lt q hq).1)
  have HV2 : Hid (IsB w2 v2 (be 4 m ++ l)) := IsB.of_own (by have h := HO2.out; rw [← vals_append] at h; exact h)
  clear HG2 HO1 HA1
  refine (rsum_any v2 _ w2 HV2.out).mono ?_
  rintro e w' ⟨rfl, rfl⟩
  go_wp2_with fail
  refine (rword (sumN (be 4 m ++ l)) w2 hs).mono ?_
  rintro e w3 ⟨v3, rfl, ho3, hb3⟩
  obtain ⟨A3, c3, rfl, hnc3, hcm3, hcl3, hcA3⟩ := Sl.of_own ho3
  have HA3 := Lib.hid hcA3
  have HL3 := Lib.hid hcl3
  have HO3 := Lib.hid (own_bel HO2.out hb3)
  have HB3 := Lib.hid (HB2.out.trans (hb3.mono HB2.out.size))
  have HZ3 := Lib.hid HB3.out.size
  clear ho3 hb3 hcm3 hcl3 hcA3 HO2 HV2
  go_wp2_with (at_builtin; refine wpList_append_has _ rfl (.tmp 25) (.tmp 26) _ rfl w.heap.size 5 i0 (.int .u8 0) 1 Tryd.underlying22 hi0 hz0 hz1 hz2 rfl v2 (4 + n) _ rfl HO3.out A3 4 _ _ rfl HL3.out HA3.out (vals_one _) (by unfold maxLen; omega) (by omega) HZ3.out ?_; intro v4 w4 hown4 hgrow4 _; have HO4 := Lib.hid hown4; have HG4 := Lib.hid hgrow4; clear hown4 hgrow4)
  go_ret
  refine ⟨_, rfl, ?_, HB3.out.grown HG4.out HZ3.out (fun q hq => (HO3.out.lt q hq).1)⟩
  have h := HO4.out
  rw [← vals_append, ← vals_append] at h
  exact IsB.of_own h
set_option maxRecDepth 100000 in
set_option maxHeartbeats 1000000 in
theorem rftake_any (m : Nat) (v : Value) (l : List UInt8) (w : World) (hm : (m : Int) ≤ 4294967295) (hv : IsB w v l) (hn : (l.length : Int) ≤ 1099511627776) :
    Calls Tryd.prog 12 #[.int .u32 (m : Int), v] w fun e w' => ∃ v', e = .returned (.tuple #[v', .int .i64 (takeF m l).2]) ∧ IsB w' v' (takeF m l).1 ∧ Below w.heap.size w w' := by
  obtain ⟨A, n, c, rfl, hnc, hcm, hl, hA⟩ := hv
  rw [hl] at hn
  have hcm' := hcm
  unfold maxLen at hcm'
  have hTF : takeF m l = (if n < 8 then ([], 2) else if l.take 4 ≠ be 4 m then ([], 5) else if sealN (l.take (n - 4)) ≠ l then ([], 6) else ((l.take (n - 4)).drop 4, 0)) := by rw [takeF, hl]
  have HTF := Lib.hid hTF
  have HL := Lib.hid hl
  have HA := Lib.hid hA
  have HV : Hid (IsB w (.slice A n c) l) := ⟨_, _, _, rfl, hnc, hcm, hl, hA⟩
  clear hTF hl hA
  by_cases h8 : n < 8
  · have HF : Hid (takeF m l = ([], 2)) := by show _ = _; rw [HTF.out, if_pos h8]
    have h82 : decide ((n : Int) < 8) = true := decide_eq_true (by omega)
    go_enter Tryd.func12, Tryd.ntmps12
    go_wp2_with fail
    go_ret2
    rw [HF.out]
    exact ⟨_, rfl, IsB.nil_ _, Below.refl _ _⟩
  · have h82 : decide ((n : Int) < 8) = false := decide_eq_false (by omega)
    have HK : Hid (takeS l 4 = ((val (l.take 4) : Int), 0)) := by
      show _ = _
      rw [takeS, if_pos (by omega), if_neg (by rw [HL.out]; omega)]
      rfl
    have hfit : l.take 4 = be 4 m ↔ val (l.take 4) = m := by
      constructor
      · intro h1
        rw [h1]
        exact val_be_lt 4 m (by omega)
      · intro h1
        have h2 := be_val (l.take 4)
        rw [List.length_take, Nat.min_eq_left (by rw [HL.out]; omega), h1] at h2
        exact h2.symm
    by_cases h4 : l.take 4 = be 4 m
    · have hv4 : val (l.take 4) = m := hfit.1 h4
      have hne : ((m : Int) != (m : Int)) = false := by simp
      rw [hv4] at HK
      have HTF2 : Hid (takeF m l = (if sealN (l.take (n - 4)) ≠ l then ([], 6) else ((l.take (n - 4)).drop 4, 0))) := by
        show _ = _
        rw [HTF.out, if_neg h8, if_neg (by simp [h4])]
      have hsq := sealN_eq l (n - 4) (by rw [HL.out]; omega)
      have HD : Hid (IsB w (.slice (cutA A c (n - 4) 1) (n - (n - 4)) (c - (n - 4))) (l.drop (n - 4))) :=
        ⟨_, _, _, rfl, by omega, by unfold maxLen; omega, by rw [List.length_drop, HL.out], by rw [vals_drop]; exact HA.out.cutA (by rw [vals_length, HL.out]; exact hnc)⟩
      have HK2 : Hid (takeS (l.drop (n - 4)) 4 = ((val (l.drop (n - 4)) : Int), 0)) := by
        show _ = _
        rw [takeS, if_pos (by omega), if_neg (by rw [List.length_drop, HL.out]; omega)]
        rw [show Int.toNat 4 = 4 from rfl, List.take_of_length_le (by rw [List.length_drop, HL.out]; omega)]
      have HI : Hid (IsB w (.slice A (n - 4) c) (l.take (n - 4))) :=
        ⟨_, _, _, rfl, by omega, hcm, by rw [List.length_take, HL.out]; omega, by rw [vals_take]; exact HA.out.take _⟩
      have hsb : ((sumN (l.take (n - 4)) : Nat) : Int) ≤ 4294967295 := by have := sumN_le (l.take (n - 4)); omega
      have hn40 : (0 : Int) ≤ (n : Int) - 4 := by omega
      have hn41 : (n : Int) - 4 ≤ (n : Int) := by omega
      have hn42 : (n : Int) - 4 ≤ (c : Int) := by omega
      have hn43 : ((n : Int) - 4).toNat = n - 4 := by omega
      clear HTF hfit h4 hv4
      go_enter Tryd.func12, Tryd.ntmps12
      go_wp2_with fail
      refine (rtake_any _ l 4 w HV.out).mono ?_
      rintro e w' ⟨rfl, rfl⟩
      rw [HK.out]
      go_wp2_with fail
      refine (rtake_any _ (l.drop (n - 4)) 4 w HD.out).mono ?_
      rintro e w' ⟨rfl, rfl⟩
      rw [HK2.out]
      go_wp2_with fail
      refine (rsum_any _ (l.take (n - 4)) w HI.out).mono ?_
      rintro e w' ⟨rfl, rfl⟩
      by_cases hs : sealN (l.take (n - 4)) = l
      · have HF : Hid (takeF m l = ((l.take (n - 4)).drop 4, 0)) := by show _ = _; rw [HTF2.out, if_neg (by simp [hs])]
        rw [hsq.1 hs]
        have hself : ∀ x : Int, (x != x) = false := by simp
        have HHX : Hid (Has w (cutA A c 4 1) (vals ((l.take (n - 4)).drop 4))) := by
          rw [vals_drop, vals_take]
          exact (HA.out.take (n - 4)).cutA (by rw [List.length_take, vals_length, HL.out]; omega)
        have HXL : Hid ((vals ((l.take (n - 4)).drop 4)).length = n - 4 - 4) := by
          show _ = _
          rw [vals_length, List.length_drop, List.length_take, HL.out]
          omega
        have HOL := Lib.hid (World.ownsRow_lit (e := 5) (size := 1) w #[] 0 (Nat.le_refl _) (by decide) rfl)
        have hn44 : (4 : Int) ≤ (n : Int) - 4 := by omega
        generalize sumN (l.take (n - 4)) = S at *
        obtain ⟨i0, hi0, hz0, hz1, hz2⟩ := info_parts byte_info
        clear hs hsq HTF2 HK2 HI HD HK
        go_wp2_with (at_builtin; refine wpList_append_has _ rfl (.tmp 40) (.tmp 44) _ rfl w.heap.size 5 i0 (.int .u8 0) 1 Tryd.underlying22 hi0 hz0 hz1 hz2 rfl (.slice (some ⟨w.heap.size, 0, none⟩) 0 0) 0 [] rfl HOL.out _ (n - 4 - 4) _ _ rfl HXL.out (HHX.out.alloc _) (vals_one _) (by unfold maxLen; omega) (by omega) (by simp) ?_; intro v2 w2 hown2 hgrow2 _; have HO2 := Lib.hid hown2; have HG2 := Lib.hid hgrow2; clear hown2 hgrow2)
        go_ret2
        rw [HF.out]
        refine ⟨_, rfl, ?_, ((Below.refl _ _).alloc (Nat.le_refl _) _).grown HG2.out (by simp) (fun q hq => (HOL.out.lt q hq).1)⟩
        have h := HO2.out
        rw [List.nil_append] at h
        exact IsB.of_own h
      · have HF : Hid (takeF m l = ([], 6)) := by show _ = _; rw [HTF2.out, if_pos hs]
        have hne2 : (((val (l.drop (n - 4)) : Nat) : Int) != ((sumN (l.take (n - 4)) : Nat) : Int)) = true := by
          rw [bne_iff_ne]
          intro h
          exact hs (hsq.2 (by omega))
        clear hs hsq HTF2
        go_wp2_with fail
        go_ret2
        rw [HF.out]
        exact ⟨_, rfl, IsB.nil_ _, Below.refl _ _⟩
    · have HF : Hid (takeF m l = ([], 5)) := by show _ = _; rw [HTF.out, if_neg h8, if_pos h4]
      have hne : (((val (l.take 4) : Nat) : Int) != (m : Int)) = true := by
        rw [bne_iff_ne]
        intro h
        exact h4 (hfit.2 (by omega))
      clear hfit h4 HTF
      go_enter Tryd.func12, Tryd.ntmps12
      go_wp2_with fail
      refine (rtake_any _ l 4 w HV.out).mono ?_
      rintro e w' ⟨rfl, rfl⟩
      rw [HK.out]
      go_wp2_with fail
      go_ret2
      rw [HF.out]
      exact ⟨_, rfl, IsB.nil_ _, Below.refl _ _⟩
end Go.Proofs.YtlobajlodbdeiaaDoor
