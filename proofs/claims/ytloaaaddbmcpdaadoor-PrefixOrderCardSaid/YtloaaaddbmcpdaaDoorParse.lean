/- The contract of addr.Parse: a walk between labels. -/
import Derived.Test.YtloaaaddbmcpdaaDoorAdr
import Derived.Test.YtloaaaddbmcpdaaDoorLabels
namespace Go.Proofs.YtloaaaddbmcpdaaDoor
open Go.RowKit
set_option linter.unusedVariables false
set_option linter.unusedSimpArgs false

/-- Parse's variables, whatever its other slots hold -/
def PAt (s : ByteArray) (A n k e : Nat) (a : Act) : Prop := ∃ (u1 u8 u9 u10 u11 u12 u13 u14 u15 u16 u17 u18 u19 u20 u21 u22 u23 u24 u25 u26 u27 u28 u29 u30 u31 u32 u33 u34 u35 u36 u37 u38 u39 u40 u41 u42 u43 u44 u45 u46 u47 u48 u49 u50 u51 u52 u53 u54 u55 u56 u57 u58 u59 u60 u61 u62 u63 : Value), a = { tmps := #[.string s, u1, .int .u32 0, .int .i64 0, .int .u32 A, .int .u32 n, .int .i64 k, .int .i64 e, u8, u9, u10, u11, u12, u13, u14, u15, u16, u17, u18, u19, u20, u21, u22, u23, u24, u25, u26, u27, u28, u29, u30, u31, u32, u33, u34, u35, u36, u37, u38, u39, u40, u41, u42, u43, u44, u45, u46, u47, u48, u49, u50, u51, u52, u53, u54, u55, u56, u57, u58, u59, u60, u61, u62, u63], defers := [] }
theorem PAt.mk {s : ByteArray} {A n k e : Nat} {u1 u8 u9 u10 u11 u12 u13 u14 u15 u16 u17 u18 u19 u20 u21 u22 u23 u24 u25 u26 u27 u28 u29 u30 u31 u32 u33 u34 u35 u36 u37 u38 u39 u40 u41 u42 u43 u44 u45 u46 u47 u48 u49 u50 u51 u52 u53 u54 u55 u56 u57 u58 u59 u60 u61 u62 u63 : Value} : PAt s A n k e { tmps := #[.string s, u1, .int .u32 0, .int .i64 0, .int .u32 A, .int .u32 n, .int .i64 k, .int .i64 e, u8, u9, u10, u11, u12, u13, u14, u15, u16, u17, u18, u19, u20, u21, u22, u23, u24, u25, u26, u27, u28, u29, u30, u31, u32, u33, u34, u35, u36, u37, u38, u39, u40, u41, u42, u43, u44, u45, u46, u47, u48, u49, u50, u51, u52, u53, u54, u55, u56, u57, u58, u59, u60, u61, u62, u63], defers := [] } := ⟨_, _, _, _, _, _, _, _, _, _, _, _, _, _, _, _, _, _, _, _, _, _, _, _, _, _, _, _, _, _, _, _, _, _, _, _, _, _, _, _, _, _, _, _, _, _, _, _, _, _, _, _, _, _, _, _, _, rfl⟩
/-- what holds at each label of Parse: 1 a number begins, 3 it goes on, 2 it has ended, 0 there is no address -/
def PJ (s : ByteArray) (R : Option Nat) (w : World) (l : Nat) (a : Act) (w' : World) : Prop :=
  w = w' ∧ ∃ A n k e : Nat, PAt s A n k e a ∧ k ≤ s.size ∧ A ≤ 4294967295 ∧
    ((l = 1 ∧ e ≤ k ∧ Hid (R = pr 0 (s.data.toList.drop k) A n e)) ∨ (l = 3 ∧ e < k ∧ n ≤ 255 ∧ Hid (R = pr 1 (s.data.toList.drop k) A n e)) ∨ (l = 2 ∧ e < k ∧ n ≤ 255 ∧ Hid (R = pr 2 (s.data.toList.drop k) A n e)) ∨ (l = 0 ∧ Hid (R = none)))
def PM (s : ByteArray) (l : Nat) (a : Act) (_ : World) : Nat := 4 * (s.size - (intOf (a.tmps.getD 6 undef)).toNat) + (if l = 3 then 2 else if l = 0 then 0 else 1)
theorem PM_at (s : ByteArray) (A n k e l : Nat) (a : Act) (w : World) (h : PAt s A n k e a) : PM s l a w = 4 * (s.size - k) + (if l = 3 then 2 else if l = 0 then 0 else 1) := by
  obtain ⟨u1, u8, u9, u10, u11, u12, u13, u14, u15, u16, u17, u18, u19, u20, u21, u22, u23, u24, u25, u26, u27, u28, u29, u30, u31, u32, u33, u34, u35, u36, u37, u38, u39, u40, u41, u42, u43, u44, u45, u46, u47, u48, u49, u50, u51, u52, u53, u54, u55, u56, u57, u58, u59, u60, u61, u62, u63, rfl⟩ := h
  rfl
theorem digit_no (s : ByteArray) (k : Nat) (hs : s.size ≤ maxLen) (hk : k ≤ s.size) (h : ∀ hk : k < s.size, isDig s[k] = false) (w : World) :
    Calls Tryd.prog 47 #[.string s, .int .i64 k] w fun e w' => e = .returned (.bool false) ∧ w = w' := by
  rcases Nat.lt_or_ge k s.size with h1 | h1
  · have := digit_at s k w hs h1
    rw [h h1] at this
    exact this
  · exact digit_none s k w hs (by omega)
theorem nodig_drop (s : ByteArray) (k : Nat) (h : ¬ ∃ hk : k < s.size, isDig s[k] = true) : ∀ c r', s.data.toList.drop k = c :: r' → isDig c = false := by
  intro c r' hc
  rcases Nat.lt_or_ge k s.size with h1 | h1
  · rw [drop_at s k h1] at hc
    injection hc with hc _
    rw [← hc]
    cases hb : isDig s[k] with
    | false => rfl
    | true => exact absurd ⟨h1, hb⟩ h
  · rw [List.drop_eq_nil_of_le (by simpa using h1)] at hc
    cases hc
theorem digit_off (s : ByteArray) (k : Nat) (hs : s.size ≤ maxLen) (hk : k ≤ s.size) (h : ¬ ∃ hk : k < s.size, isDig s[k] = true) (w : World) :
    Calls Tryd.prog 47 #[.string s, .int .i64 k] w fun e w' => e = .returned (.bool false) ∧ w = w' :=
  digit_no s k hs hk (fun hk => by
    cases hb : isDig s[k] with
    | false => rfl
    | true => exact absurd ⟨hk, hb⟩ h) w
theorem digit_on (s : ByteArray) (k : Nat) (hs : s.size ≤ maxLen) (hk : k < s.size) (h : isDig s[k] = true) (w : World) :
    Calls Tryd.prog 47 #[.string s, .int .i64 k] w fun e w' => e = .returned (.bool true) ∧ w = w' := by
  have := digit_at s k w hs hk
  rw [h] at this
  exact this
def pc (l : Nat) : Nat := if l = 3 then 2 else if l = 0 then 0 else 1
theorem PM_pc (s : ByteArray) (A n k e l : Nat) (a : Act) (w : World) (h : PAt s A n k e a) : PM s l a w = 4 * (s.size - k) + pc l := PM_at s A n k e l a w h
/-- a jump, counted -/
theorem PJ_go (s : ByteArray) (R : Option Nat) (w : World) (A n k e l : Nat) (a : Act) (m : Nat) (ha : PAt s A n k e a) (hk : k ≤ s.size) (hA : A ≤ 4294967295)
    (h : (l = 1 ∧ e ≤ k ∧ Hid (R = pr 0 (s.data.toList.drop k) A n e)) ∨ (l = 3 ∧ e < k ∧ n ≤ 255 ∧ Hid (R = pr 1 (s.data.toList.drop k) A n e)) ∨ (l = 2 ∧ e < k ∧ n ≤ 255 ∧ Hid (R = pr 2 (s.data.toList.drop k) A n e)) ∨ (l = 0 ∧ Hid (R = none)))
    (hm : 4 * (s.size - k) + pc l < m) : PJ s R w l a w ∧ PM s l a w < m := ⟨⟨rfl, A, n, k, e, ha, hk, hA, h⟩, by rw [PM_pc s A n k e l a w ha]; exact hm⟩
theorem end_or (A n : Nat) (hn : n < 256) : bits .or .u32 ((A : Int) * 256 % 4294967296) (n : Int) = ((st A n : Nat) : Int) := by
  have e : (A : Int) * 256 % 4294967296 = ((A * 256 % 4294967296 : Nat) : Int) := by omega
  have o := Nat.shiftLeft_add_eq_or_of_lt (i := 8) (show n < 2 ^ 8 by omega) (A % 16777216)
  rw [Nat.shiftLeft_eq] at o
  rw [e, u32_or_nat _ _ (by omega) (by omega), show A * 256 % 4294967296 = A % 16777216 * 2 ^ 8 by omega, ← o]
  unfold st
  omega
theorem pc0 : pc 0 = 0 := rfl
theorem pc1 : pc 1 = 1 := rfl
theorem pc2 : pc 2 = 1 := rfl
theorem pc3 : pc 3 = 2 := rfl
set_option maxRecDepth 100000 in
set_option maxHeartbeats 4000000 in
theorem parse_any (s : ByteArray) (w : World) (hs : s.size ≤ maxLen) :
    Calls Tryd.prog 35 #[.string s] w fun e w' => e = .returned (.tuple #[.int .u32 (pa s.data.toList : Int), .int .i64 (pe s.data.toList)]) ∧ w = w' := by
  obtain ⟨R, hR⟩ : ∃ R, parseN s.data.toList = R := ⟨_, rfl⟩
  have H : Hid (R = pr 0 (s.data.toList.drop 0) 0 0 0) := hR.symm
  have HS := Lib.hid hs
  unfold maxLen at hs
  unfold pa pe
  rw [hR]
  clear hR
  go_enter Tryd.func35, Tryd.ntmps35
  go_wp2
  refine wp_labels (PJ s R w) (PM s) ?_ ?_
  · go_wp2
    go_step3
    by_cases d1 : ∃ h : 0 < s.size, isDig s[0] = true
    · obtain ⟨hlt, d1⟩ := d1
      have C1 := Lib.hid (digit_on s 0 HS.out hlt d1)
      have HD := Lib.hid (drop_at s 0 hlt)
      obtain ⟨v, hv, hv9⟩ : ∃ v, s[0].toNat = v + 48 ∧ (v : Int) ≤ 9 := by have := (isDig_iff _).1 d1; exact ⟨s[0].toNat - 48, by omega, by omega⟩
      rcases Nat.eq_zero_or_pos v with rfl | hv1
      · have hv : s[0].toNat = 48 := by rw [hv]
        have HE : Hid (R = pr 2 (s.data.toList.drop (1)) 0 0 0) := by show _ = _; rw [H.out, HD.out, pr_first_zero _ _ _ _ _ hv]
        clear H HD d1
        go_wp2_with fail
        refine (C1.out w).mono ?_
        rintro e1 w1 ⟨rfl, rfl⟩
        go_wp2_with fail
        go_step3
        exact (PJ_go s R w (0) (0) (1) (0) 2 _ (4 * s.size + 5) PAt.mk (by omega) (by omega) (.inr (.inr (.inl ⟨rfl, by omega, by omega, HE⟩))) (by rw [pc2]; omega)).1
      · have HE1 : Hid (R = pr 1 (s.data.toList.drop (1)) 0 v 0) := by show _ = _; rw [H.out, HD.out, pr_first_more _ _ _ _ _ d1 (by omega), hv, Nat.add_sub_cancel]
        have t1 : ((v : Int) == 0) = false := by rw [beq_eq_false_iff_ne]; omega
        have hv1 : 1 ≤ (v : Int) := by omega
        clear H HD d1
        by_cases d2 : ∃ h : 1 < s.size, isDig s[1] = true
        · obtain ⟨hlt2, d2⟩ := d2
          have C2 := Lib.hid (digit_on s (1) HS.out hlt2 d2)
          have HD := Lib.hid (drop_at s (1) hlt2)
          obtain ⟨u, hu, hu9⟩ : ∃ v, s[1].toNat = v + 48 ∧ (v : Int) ≤ 9 := by have := (isDig_iff _).1 d2; exact ⟨s[1].toNat - 48, by omega, by omega⟩
          have h255 : 10 * (v : Int) + (u : Int) ≤ 255 := by omega
          have HE : Hid (R = pr 1 (s.data.toList.drop (2)) 0 (10 * v + u) 0) := by show _ = _; rw [HE1.out, HD.out, pr_more_dig _ _ _ _ _ d2 (by omega), hu, Nat.add_sub_cancel]
          clear HE1 HD d2
          go_wp2_with fail
          refine (C1.out w).mono ?_
          rintro e1 w1 ⟨rfl, rfl⟩
          go_wp2_with fail
          go_step3
          go_wp2_with fail
          refine (C2.out w).mono ?_
          rintro e1 w1 ⟨rfl, rfl⟩
          go_wp2_with fail
          go_step3
          exact (PJ_go s R w (0) (10 * v + u) (2) (0) 3 _ (4 * s.size + 5) PAt.mk (by omega) (by omega) (.inr (.inl ⟨rfl, by omega, by omega, HE⟩)) (by rw [pc3]; omega)).1
        · have C2 := Lib.hid (digit_off s (1) HS.out (by omega) d2)
          have HE : Hid (R = pr 2 (s.data.toList.drop (1)) 0 v 0) := by show _ = _; rw [HE1.out, pr_more_end _ _ _ _ (nodig_drop s _ d2)]
          clear HE1 d2
          go_wp2_with fail
          refine (C1.out w).mono ?_
          rintro e1 w1 ⟨rfl, rfl⟩
          go_wp2_with fail
          go_step3
          go_wp2_with fail
          refine (C2.out w).mono ?_
          rintro e1 w1 ⟨rfl, rfl⟩
          go_wp2_with fail
          go_step3
          exact (PJ_go s R w (0) (v) (1) (0) 2 _ (4 * s.size + 5) PAt.mk (by omega) (by omega) (.inr (.inr (.inl ⟨rfl, by omega, by omega, HE⟩))) (by rw [pc2]; omega)).1
    · have C1 := Lib.hid (digit_off s 0 HS.out (by omega) d1)
      have HE : Hid (R = none) := by show _ = _; rw [H.out, pr_first_no _ _ _ _ (nodig_drop s _ d1)]
      clear H d1
      go_wp2_with fail
      refine (C1.out w).mono ?_
      rintro e1 w1 ⟨rfl, rfl⟩
      go_wp2_with fail
      go_step3
      exact (PJ_go s R w (0) (0) (0) (0) 0 _ (4 * s.size + 5) PAt.mk (by omega) (by omega) (.inr (.inr (.inr ⟨rfl, HE⟩))) (by rw [pc0]; omega)).1
  · rintro l a w' ⟨rfl, A, n, k, e, ha, hk, hA, h⟩
    have hm := PM_pc s A n k e l a w ha
    rw [hm]
    clear hm
    obtain ⟨u1, u8, u9, u10, u11, u12, u13, u14, u15, u16, u17, u18, u19, u20, u21, u22, u23, u24, u25, u26, u27, u28, u29, u30, u31, u32, u33, u34, u35, u36, u37, u38, u39, u40, u41, u42, u43, u44, u45, u46, u47, u48, u49, u50, u51, u52, u53, u54, u55, u56, u57, u58, u59, u60, u61, u62, u63, rfl⟩ := ha
    rcases h with ⟨rfl, he, H⟩ | ⟨rfl, he, hn, H⟩ | ⟨rfl, he, hn, H⟩ | ⟨rfl, H⟩
    · refine ⟨_, rfl, ?_⟩
      by_cases d1 : ∃ h : k < s.size, isDig s[k] = true
      · obtain ⟨hlt, d1⟩ := d1
        have C1 := Lib.hid (digit_on s k HS.out hlt d1)
        have HD := Lib.hid (drop_at s k hlt)
        obtain ⟨v, hv, hv9⟩ : ∃ v, s[k].toNat = v + 48 ∧ (v : Int) ≤ 9 := by have := (isDig_iff _).1 d1; exact ⟨s[k].toNat - 48, by omega, by omega⟩
        rcases Nat.eq_zero_or_pos v with rfl | hv1
        · have hv : s[k].toNat = 48 := by rw [hv]
          have HE : Hid (R = pr 2 (s.data.toList.drop (k + 1)) A 0 e) := by show _ = _; rw [H.out, HD.out, pr_first_zero _ _ _ _ _ hv]
          clear H HD d1
          go_wp2_with fail
          refine (C1.out w).mono ?_
          rintro e1 w1 ⟨rfl, rfl⟩
          go_wp2_with fail
          go_step3
          exact (PJ_go s R w (A) (0) (k + 1) (e) 2 _ (4 * (s.size - k) + pc 1) PAt.mk (by omega) (by omega) (.inr (.inr (.inl ⟨rfl, by omega, by omega, HE⟩))) (by rw [pc2, pc1]; omega))
        · have HE1 : Hid (R = pr 1 (s.data.toList.drop (k + 1)) A v e) := by show _ = _; rw [H.out, HD.out, pr_first_more _ _ _ _ _ d1 (by omega), hv, Nat.add_sub_cancel]
          have t1 : ((v : Int) == 0) = false := by rw [beq_eq_false_iff_ne]; omega
          have hv1 : 1 ≤ (v : Int) := by omega
          clear H HD d1
          by_cases d2 : ∃ h : k + 1 < s.size, isDig s[k + 1] = true
          · obtain ⟨hlt2, d2⟩ := d2
            have C2 := Lib.hid (digit_on s (k + 1) HS.out hlt2 d2)
            have HD := Lib.hid (drop_at s (k + 1) hlt2)
            obtain ⟨u, hu, hu9⟩ : ∃ v, s[k + 1].toNat = v + 48 ∧ (v : Int) ≤ 9 := by have := (isDig_iff _).1 d2; exact ⟨s[k + 1].toNat - 48, by omega, by omega⟩
            have h255 : 10 * (v : Int) + (u : Int) ≤ 255 := by omega
            have HE : Hid (R = pr 1 (s.data.toList.drop (k + 2)) A (10 * v + u) e) := by show _ = _; rw [HE1.out, HD.out, pr_more_dig _ _ _ _ _ d2 (by omega), hu, Nat.add_sub_cancel]
            clear HE1 HD d2
            go_wp2_with fail
            refine (C1.out w).mono ?_
            rintro e1 w1 ⟨rfl, rfl⟩
            go_wp2_with fail
            go_step3
            go_wp2_with fail
            refine (C2.out w).mono ?_
            rintro e1 w1 ⟨rfl, rfl⟩
            go_wp2_with fail
            go_step3
            exact (PJ_go s R w (A) (10 * v + u) (k + 2) (e) 3 _ (4 * (s.size - k) + pc 1) PAt.mk (by omega) (by omega) (.inr (.inl ⟨rfl, by omega, by omega, HE⟩)) (by rw [pc3, pc1]; omega))
          · have C2 := Lib.hid (digit_off s (k + 1) HS.out (by omega) d2)
            have HE : Hid (R = pr 2 (s.data.toList.drop (k + 1)) A v e) := by show _ = _; rw [HE1.out, pr_more_end _ _ _ _ (nodig_drop s _ d2)]
            clear HE1 d2
            go_wp2_with fail
            refine (C1.out w).mono ?_
            rintro e1 w1 ⟨rfl, rfl⟩
            go_wp2_with fail
            go_step3
            go_wp2_with fail
            refine (C2.out w).mono ?_
            rintro e1 w1 ⟨rfl, rfl⟩
            go_wp2_with fail
            go_step3
            exact (PJ_go s R w (A) (v) (k + 1) (e) 2 _ (4 * (s.size - k) + pc 1) PAt.mk (by omega) (by omega) (.inr (.inr (.inl ⟨rfl, by omega, by omega, HE⟩))) (by rw [pc2, pc1]; omega))
      · have C1 := Lib.hid (digit_off s k HS.out (by omega) d1)
        have HE : Hid (R = none) := by show _ = _; rw [H.out, pr_first_no _ _ _ _ (nodig_drop s _ d1)]
        clear H d1
        go_wp2_with fail
        refine (C1.out w).mono ?_
        rintro e1 w1 ⟨rfl, rfl⟩
        go_wp2_with fail
        go_step3
        exact (PJ_go s R w (A) (n) (k) (e) 0 _ (4 * (s.size - k) + pc 1) PAt.mk (by omega) (by omega) (.inr (.inr (.inr ⟨rfl, HE⟩))) (by rw [pc0, pc1]; omega))
    · refine ⟨_, rfl, ?_⟩
      by_cases d2 : ∃ h : k < s.size, isDig s[k] = true
      · obtain ⟨hlt2, d2⟩ := d2
        have C2 := Lib.hid (digit_on s k HS.out hlt2 d2)
        have HD := Lib.hid (drop_at s k hlt2)
        obtain ⟨u, hu, hu9⟩ : ∃ v, s[k].toNat = v + 48 ∧ (v : Int) ≤ 9 := by have := (isDig_iff _).1 d2; exact ⟨s[k].toNat - 48, by omega, by omega⟩
        by_cases h2 : 10 * n + u ≤ 255
        · have h255 : 10 * (n : Int) + (u : Int) ≤ 255 := by omega
          have HE : Hid (R = pr 1 (s.data.toList.drop (k + 1)) A (10 * n + u) e) := by show _ = _; rw [H.out, HD.out, pr_more_dig _ _ _ _ _ d2 (by omega), hu, Nat.add_sub_cancel]
          clear H HD d2 h2
          go_wp2_with fail
          refine (C2.out w).mono ?_
          rintro e1 w1 ⟨rfl, rfl⟩
          go_wp2_with fail
          go_step3
          exact (PJ_go s R w (A) (10 * n + u) (k + 1) (e) 3 _ (4 * (s.size - k) + pc 3) PAt.mk (by omega) (by omega) (.inr (.inl ⟨rfl, by omega, by omega, HE⟩)) (by rw [pc3]; omega))
        · have h255 : 255 < 10 * (n : Int) + (u : Int) := by omega
          have HE : Hid (R = none) := by show _ = _; rw [H.out, HD.out, pr_more_no _ _ _ _ _ d2 (by omega)]
          clear H HD d2 h2
          go_wp2_with fail
          refine (C2.out w).mono ?_
          rintro e1 w1 ⟨rfl, rfl⟩
          go_wp2_with fail
          go_step3
          exact (PJ_go s R w (A) (10 * n + u) (k + 1) (e) 0 _ (4 * (s.size - k) + pc 3) PAt.mk (by omega) (by omega) (.inr (.inr (.inr ⟨rfl, HE⟩))) (by rw [pc0, pc3]; omega))
      · have C2 := Lib.hid (digit_off s k HS.out (by omega) d2)
        have HE : Hid (R = pr 2 (s.data.toList.drop k) A n e) := by show _ = _; rw [H.out, pr_more_end _ _ _ _ (nodig_drop s _ d2)]
        clear H d2
        go_wp2_with fail
        refine (C2.out w).mono ?_
        rintro e1 w1 ⟨rfl, rfl⟩
        go_wp2_with fail
        go_step3
        exact (PJ_go s R w (A) (n) (k) (e) 2 _ (4 * (s.size - k) + pc 3) PAt.mk (by omega) (by omega) (.inr (.inr (.inl ⟨rfl, by omega, by omega, HE⟩))) (by rw [pc2, pc3]; omega))
    · refine ⟨_, rfl, ?_⟩
      have he2 : e + 1 ≤ s.size := by omega
      have hor := end_or A n (by omega)
      have hB := st_lt A n
      obtain ⟨B, HB⟩ : ∃ B, Hid (st A n = B) := ⟨_, rfl⟩
      rw [HB.out] at hor hB
      have hB : B ≤ 4294967295 := by omega
      rcases Nat.lt_or_ge k s.size with hlt | hge
      · have HD := Lib.hid (drop_at s k hlt)
        by_cases hd : s[k].toNat = 46
        · have t1 : ((s[k].toNat : Int) == 46) = true := by rw [beq_iff_eq]; omega
          have HE : Hid (R = pr 0 (s.data.toList.drop (k + 1)) B n (e + 1)) := by show _ = _; rw [H.out, HD.out, pr_end_dot _ _ _ _ _ hd, HB.out]
          clear H HD hd
          go_wp2_with fail
          go_step3
          exact (PJ_go s R w (B) (n) (k + 1) (e + 1) 1 _ (4 * (s.size - k) + pc 2) PAt.mk (by omega) (by omega) (.inl ⟨rfl, by omega, HE⟩) (by rw [pc1, pc2]; omega))
        · have t1 : ((s[k].toNat : Int) == 46) = false := by rw [beq_eq_false_iff_ne]; omega
          have t2 : ((k : Int) == (s.size : Int)) = false := by rw [beq_eq_false_iff_ne]; omega
          have HE : Hid (R = none) := by show _ = _; rw [H.out, HD.out, pr_end_other _ _ _ _ _ hd]
          clear H HD hd
          go_wp2_with fail
          all_goals
            go_step3
            go_wp2_with fail
            simp only [Jumps]
            go_ret2
            exact ⟨by rw [HE.out]; rfl, rfl⟩
      · have hks : k = s.size := by omega
        have t0 : decide (k < s.size) = false := by simp; omega
        have t2 : ((k : Int) == (s.size : Int)) = true := by rw [beq_iff_eq]; omega
        have HN : Hid (s.data.toList.drop k = []) := List.drop_eq_nil_of_le (by simpa using hge)
        by_cases h4 : e + 1 = 4
        · have HE : Hid (R = some B) := by show _ = _; rw [H.out, HN.out, pr_end_ok _ _ _ h4, HB.out]
          have t4 : ((e : Int) + 1 == 4) = true := by rw [beq_iff_eq]; omega
          clear H HN hks hge h4
          go_wp2_with fail
          simp only [Jumps]
          go_ret2
          exact ⟨by rw [HE.out]; rfl, rfl⟩
        · have HE : Hid (R = none) := by show _ = _; rw [H.out, HN.out, pr_end_few _ _ _ h4]
          have t4 : ((e : Int) + 1 == 4) = false := by rw [beq_eq_false_iff_ne]; omega
          clear H HN hks hge h4
          go_wp2_with fail
          go_step3
          go_wp2_with fail
          simp only [Jumps]
          go_ret2
          exact ⟨by rw [HE.out]; rfl, rfl⟩
    · refine ⟨_, rfl, ?_⟩
      go_wp2_with fail
      simp only [Jumps]
      go_ret2
      exact ⟨by rw [H.out]; rfl, rfl⟩
end Go.Proofs.YtloaaaddbmcpdaaDoor
