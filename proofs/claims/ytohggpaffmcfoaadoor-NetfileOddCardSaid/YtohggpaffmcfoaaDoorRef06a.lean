/- Contracts of package theseusref06 (the document's answers for layer 6): Mask, May, Compare. -/
import Derived.Test.YtohggpaffmcfoaaDoorRef05b
import Derived.Test.YtohggpaffmcfoaaDoorMath
namespace Go.Proofs.YtohggpaffmcfoaaDoor
open Go.RowKit
set_option linter.unusedVariables false
set_option maxRecDepth 100000
set_option linter.unusedSimpArgs false

/-! bits of first bits -/
theorem msk_bit (k i : Nat) (hk : k ≤ 32) (hi : i < 32) : bitN (mskN k) i = if i < k then 1 else 0 := by
  rw [bitN_test, msk_testBit k i hk hi]
  by_cases h : i < k <;> simp [h]
theorem lo_bit (a k i : Nat) (ha : a < 2 ^ 32) (hk : k ≤ 32) (hi : i < 32) : bitN (loN a k) i = if i < k then bitN a i else 0 := by
  rw [← and_msk a k ha hk, bitN_test, bitN_test, Nat.testBit_and, msk_testBit k i hk hi]
  by_cases h : i < k <;> simp [h]
theorem hi_bit (a k i : Nat) (ha : a < 2 ^ 32) (hk : k ≤ 32) (hi : i < 32) : bitN (hiN a k) i = if i < k then bitN a i else 1 := by
  have h1 : (4294967295 : Nat).testBit (31 - i) = true := by
    rw [show (4294967295 : Nat) = 2 ^ 32 - 1 from rfl, Nat.testBit_two_pow_sub_one]
    simp
    omega
  rw [← or_msk a k ha, ← and_msk a k ha hk, ← xor_msk k hk, bitN_test, bitN_test, Nat.testBit_or, Nat.testBit_and, Nat.testBit_xor, msk_testBit k i hk hi, h1]
  by_cases h : i < k <;> simp [h]
theorem same_bits (a b : Nat) (ha : a < 2 ^ 32) (hb : b < 2 ^ 32) (h : ∀ i, i < 32 → bitN a i = bitN b i) : a = b := by
  have := high_same a b 32 ha hb h 32 (by omega) (by omega)
  simpa using this
theorem hold_bits (a k b : Nat) (ha : a < 2 ^ 32) (hb : b < 2 ^ 32) (hk : k ≤ 32) : holdB a k b = true ↔ ∀ i, i < k → bitN a i = bitN b i := by
  unfold holdB
  rw [decide_eq_true_iff]
  constructor
  · intro h i hi
    have h1 := lo_bit a k i ha hk (by omega)
    have h2 := lo_bit b k i hb hk (by omega)
    rw [if_pos hi] at h1 h2
    rw [← h1, ← h2, h]
  · intro h
    unfold loN
    rw [high_same a b k ha hb h k (by omega) hk]
theorem lo_bits (a k : Nat) (ha : a < 2 ^ 32) (hk : k ≤ 32) : loN a k = a ↔ ∀ i, k ≤ i → i < 32 → bitN a i = 0 := by
  constructor
  · intro h i h1 h2
    have := lo_bit a k i ha hk h2
    rw [h, if_neg (by omega)] at this
    exact this
  · intro h
    refine same_bits _ _ (Nat.lt_of_le_of_lt (lo_le a k) ha) ha fun i hi => ?_
    rw [lo_bit a k i ha hk hi]
    split
    · rfl
    · rw [h i (by omega) hi]

theorem rmask_any (n : Int) (w : World) : Calls Tryd.prog 81 #[.int .i64 n] w fun e w' => e = .returned (.int .u32 (mskN (cl n) : Int)) ∧ w = w' := by
  obtain ⟨c, hc⟩ : ∃ c, cl n = c := ⟨_, rfl⟩
  have hcl := cl_le n
  rw [hc] at hcl ⊢
  have HC : Hid (c = (min (max n 0) 32).toNat) := hc.symm
  have hm := msk_le c
  have HL := Lib.hid hcl
  have HM := Lib.hid hm
  clear hc hcl hm
  go_enter Tryd.func81, Tryd.ntmps81
  go_wp2
  go_loop [3, 4] (fun m i => ∃ k M : Nat, k ≤ 32 ∧ i = .int .i64 k ∧ m = .int .u32 M ∧ Hid (M = mskN c / 2 ^ (32 - k))) (fun _ i => 32 - (intOf i).toNat)
  case atStart => exact ⟨0, 0, by omega, rfl, rfl, by show _ = _; rw [Nat.sub_zero, Nat.div_eq_of_lt (Nat.lt_of_le_of_lt HM.out (by decide))]⟩
  case round =>
    obtain ⟨k, M, hk, rfl, rfl, HK⟩ := hrel
    by_cases hlt : k < 32
    · have hs := sum_step (mskN c) k hlt
      have hM : (M : Int) ≤ 2147483647 := by have := sum_le (mskN c) k hlt HM.out; rw [← HK.out] at this; omega
      rw [← HK.out, msk_bit c k HL.out hlt] at hs
      by_cases hn : (k : Int) < n
      · rw [if_pos (by have := HC.out; omega)] at hs
        have HS := Lib.hid hs
        clear hs
        go_wp2_with fail
        go_round
        case rel => exact ⟨k + 1, M * 2 + 1, by omega, by go_num, by go_num, HS.out.symm⟩
        case measure => simp [intOf]; omega
      · rw [if_neg (by have := HC.out; omega)] at hs
        have HS := Lib.hid hs
        clear hs
        go_wp2_with fail
        go_round
        case rel => exact ⟨k + 1, M * 2, by omega, by go_num, by go_num, HS.out.symm⟩
        case measure => simp [intOf]; omega
    · obtain rfl : k = 32 := by omega
      have HE : Hid (M = mskN c) := by show _ = _; simpa using HK.out
      go_wp2_with fail
      go_ret
      exact ⟨by rw [HE.out]; rfl, rfl⟩
theorem rmay_any (a : Nat) (n : Int) (w : World) (ha : (a : Int) ≤ 4294967295) :
    Calls Tryd.prog 85 #[.int .u32 a, .int .i64 n] w fun e w' => e = .returned (.int .i64 (mayI a n)) ∧ w = w' := by
  by_cases h1 : n < 0
  · have HE : Hid (mayI a n = 1) := by show _ = _; unfold mayI; rw [if_pos (.inl h1)]
    go_enter Tryd.func85, Tryd.ntmps85
    go_wp2_with fail
    go_ret
    exact ⟨by rw [HE.out]; rfl, rfl⟩
  · by_cases h2 : 32 < n
    · have HE : Hid (mayI a n = 1) := by show _ = _; unfold mayI; rw [if_pos (.inr h2)]
      go_enter Tryd.func85, Tryd.ntmps85
      go_wp2_with fail
      go_ret
      exact ⟨by rw [HE.out]; rfl, rfl⟩
    · obtain ⟨m, rfl⟩ := Int.eq_ofNat_of_zero_le (show 0 ≤ n by omega)
      have hm : (m : Int) ≤ 32 := by omega
      have HI : Hid (mayI a (m : Int) = if loN a m = a then 0 else 8) := may_in a m (by omega)
      have HB := Lib.hid (lo_bits a m (by omega) (by omega))
      have h0 : 0 ≤ (m : Int) := by omega
      clear h1 h2
      go_enter Tryd.func85, Tryd.ntmps85
      go_wp2_with fail
      go_loop [5] (fun i => ∃ k : Nat, m ≤ k ∧ k ≤ 32 ∧ i = .int .i64 k ∧ Hid (∀ j, m ≤ j → j < k → bitN a j = 0)) (fun i => 32 - (intOf i).toNat)
      case atStart => exact ⟨m, by omega, by omega, rfl, fun j h1 h2 => absurd h2 (by omega)⟩
      case round =>
        obtain ⟨k, hk0, hk, rfl, HK⟩ := hrel
        by_cases hlt : k < 32
        · have D := Lib.hid (fun w => rbit_in a k w ha (by omega))
          have hx := bitN_le a k
          rcases (by omega : bitN a k = 0 ∨ bitN a k = 1) with h | h
          · have HN : Hid (∀ j, m ≤ j → j < k + 1 → bitN a j = 0) := fun j h1 h2 => by
              rcases Nat.lt_or_ge j k with g | g
              · exact HK.out j h1 g
              · rw [show j = k by omega]; exact h
            rw [h] at D
            clear h hx
            go_wp2_with fail
            refine (D.out _).mono ?_
            rintro e1 w2 ⟨rfl, rfl⟩
            go_wp2_with fail
            go_round
            case rel => exact ⟨k + 1, by omega, by omega, by go_num, HN⟩
            case measure => simp [intOf]; omega
          · have HE : Hid (mayI a (m : Int) = 8) := by
              show _ = _
              rw [HI.out, if_neg]
              intro g
              have := HB.out.1 g k (by omega) hlt
              omega
            rw [h] at D
            clear h hx
            go_wp2_with fail
            refine (D.out _).mono ?_
            rintro e1 w2 ⟨rfl, rfl⟩
            go_wp2_with fail
            go_ret
            exact ⟨by rw [HE.out]; rfl, rfl⟩
        · obtain rfl : k = 32 := by omega
          have HE : Hid (mayI a (m : Int) = 0) := by
            show _ = _
            rw [HI.out, if_pos (HB.out.2 HK.out)]
          go_wp2_with fail
          go_ret
          exact ⟨by rw [HE.out]; rfl, rfl⟩
theorem rcompare_any (a b : Nat) (m n : Int) (w : World) :
    Calls Tryd.prog 82 #[.int .u32 a, .int .i64 m, .int .u32 b, .int .i64 n] w fun e w' => e = .returned (.int .i64 (cmpI a m b n)) ∧ w = w' := by
  rcases Nat.lt_trichotomy a b with h | h | h
  · have HE := Lib.hid (cmp_lt m n h)
    have t1 : decide (a < b) = true := by simpa using h
    clear h
    go_enter Tryd.func82, Tryd.ntmps82
    go_wp2_with fail
    go_ret
    exact ⟨by rw [HE.out]; rfl, rfl⟩
  · subst h
    have t1 : decide (a < a) = false := by simp
    have t2 : ((a : Int) == (a : Int)) = true := by simp
    rcases Int.lt_trichotomy m n with g | g | g
    · have HE := Lib.hid (cmp_eq_lt a g)
      go_enter Tryd.func82, Tryd.ntmps82
      go_wp2_with fail
      go_ret
      exact ⟨by rw [HE.out]; rfl, rfl⟩
    · subst g
      have HE := Lib.hid (cmp_same a m)
      have t3 : (m == m) = true := by simp
      have t4 : decide (m < m) = false := by simp
      go_enter Tryd.func82, Tryd.ntmps82
      go_wp2_with fail
      go_ret
      exact ⟨by rw [HE.out]; rfl, rfl⟩
    · have HE := Lib.hid (cmp_eq_gt a g)
      have g2 : ¬ m < n := by omega
      have t3 : (m == n) = false := by rw [beq_eq_false_iff_ne]; omega
      go_enter Tryd.func82, Tryd.ntmps82
      go_wp2_with fail
      go_ret
      exact ⟨by rw [HE.out]; rfl, rfl⟩
  · have HE := Lib.hid (cmp_gt m n h)
    have t1 : decide (a < b) = false := by simp; omega
    have t2 : ((a : Int) == (b : Int)) = false := by rw [beq_eq_false_iff_ne]; omega
    clear h
    go_enter Tryd.func82, Tryd.ntmps82
    go_wp2_with fail
    go_ret
    exact ⟨by rw [HE.out]; rfl, rfl⟩
end Go.Proofs.YtohggpaffmcfoaaDoor
