/- The walks of the laws of package theseuslaw05: AddrCommon. -/
import Derived.Test.YtjloiljiighghaaDoorL05
import Derived.Test.YtjloiljiighghaaDoorRef05
namespace Go.Proofs.YtjloiljiighghaaDoor
open Go.RowKit
set_option linter.unusedVariables false
set_option linter.unusedSimpArgs false

theorem sum_step (a k : Nat) (hk : k < 32) : a / 2 ^ (32 - (k + 1)) = a / 2 ^ (32 - k) * 2 + bitN a k := by
  rw [show 32 - k = (31 - k) + 1 by omega, Nat.pow_succ, ← Nat.div_div_eq_div_mul, show 32 - (k + 1) = 31 - k by omega, bitN]
  omega
theorem sum_le (a k : Nat) (hk : k < 32) (ha : a ≤ 4294967295) : a / 2 ^ (32 - k) ≤ 2147483647 := by
  rw [show 32 - k = (31 - k) + 1 by omega, Nat.pow_succ, Nat.mul_comm, ← Nat.div_div_eq_div_mul]
  exact Nat.le_trans (Nat.div_le_self _ _) (by omega)
theorem high_same (a b n : Nat) (ha : a < 2 ^ 32) (hb : b < 2 ^ 32) (h : ∀ i, i < n → bitN a i = bitN b i) : ∀ k, k ≤ n → k ≤ 32 → a / 2 ^ (32 - k) = b / 2 ^ (32 - k)
  | 0, _, _ => by rw [Nat.sub_zero, Nat.div_eq_of_lt ha, Nat.div_eq_of_lt hb]
  | k + 1, h1, h2 => by rw [sum_step a k (by omega), sum_step b k (by omega), high_same a b n ha hb h k (by omega) (by omega), h k (by omega)]
theorem com_full (a b : Nat) (ha : a < 2 ^ 32) (hb : b < 2 ^ 32) (h : com a b = 32) : a = b := by
  have := high_same a b 32 ha hb (fun i hi => com_same a b i ha hb (by omega)) 32 (by omega) (by omega)
  simpa using this
theorem com_self (a : Nat) : com a a = 32 := by rw [com, Nat.xor_self]; rfl
theorem com_comm (a b : Nat) : com b a = com a b := by rw [com, com, Nat.xor_comm]
theorem com_less (a b : Nat) (ha : a < 2 ^ 32) (hb : b < 2 ^ 32) (h : com a b < 32) : (bitN a (com a b) = 0 ∧ bitN b (com a b) = 1 ∧ a < b) ∨ (bitN a (com a b) = 1 ∧ bitN b (com a b) = 0 ∧ b < a) := by
  have h1 := high_same a b (com a b) ha hb (fun i hi => com_same a b i ha hb hi) (com a b) (Nat.le_refl _) (by omega)
  have h2 := com_not a b ha hb h
  have h3 := sum_step a (com a b) h
  have h4 := sum_step b (com a b) h
  have h5 := bitN_le a (com a b)
  have h6 := bitN_le b (com a b)
  rw [h1] at h3
  generalize bitN a (com a b) = x at *
  generalize bitN b (com a b) = y at *
  generalize b / 2 ^ (32 - com a b) = q at *
  have key : ∀ (u v d : Nat), u / d < v / d → u < v := fun u v d hd => by
    rcases Nat.lt_or_ge u v with g | g
    · exact g
    · exact absurd (Nat.div_le_div_right (c := d) g) (by omega)
  rcases (by omega : (x = 0 ∧ y = 1) ∨ (x = 1 ∧ y = 0)) with ⟨rfl, rfl⟩ | ⟨rfl, rfl⟩
  · exact .inl ⟨rfl, rfl, key a b (2 ^ (32 - (com a b + 1))) (by omega)⟩
  · exact .inr ⟨rfl, rfl, key b a (2 ^ (32 - (com a b + 1))) (by omega)⟩
set_option maxRecDepth 100000 in
set_option maxHeartbeats 2000000 in
theorem walkAddrCommon (a0 a1 : Int) (w : World) (ht : Hid (Tab w)) (w0 : (Lit.int .u32 a0).wf = true) (w1 : (Lit.int .u32 a1).wf = true) :
    Calls Tryd.prog 5 #[.int .u32 a0, .int .u32 a1] w fun e w' => e = .returned (.bool true) ∧ Below w.heap.size w w' := by
  obtain ⟨hl0, hh0⟩ := bounds_u32 w0
  obtain ⟨hl1, hh1⟩ := bounds_u32 w1
  obtain ⟨a, rfl⟩ := Int.eq_ofNat_of_zero_le hl0
  obtain ⟨b, rfl⟩ := Int.eq_ofNat_of_zero_le hl1
  clear w0 w1 hl0 hl1
  have ha : (a : Int) ≤ 4294967295 := by omega
  have hb : (b : Int) ≤ 4294967295 := by omega
  have HA : Hid (a < 2 ^ 32) := show _ < _ by omega
  have HB : Hid (b < 2 ^ 32) := show _ < _ by omega
  clear hh0 hh1
  have hn := com_le a b
  have HS : Hid (∀ i, i < com a b → bitN a i = bitN b i) := fun i hi => com_same a b i HA.out HB.out hi
  have HL : Hid (com a b < 32 → (bitN a (com a b) = 0 ∧ bitN b (com a b) = 1 ∧ a < b) ∨ (bitN a (com a b) = 1 ∧ bitN b (com a b) = 0 ∧ b < a)) := fun h => com_less a b HA.out HB.out h
  have HF : Hid (com a b = 32 → a = b) := fun h => com_full a b HA.out HB.out h
  have C1 := Lib.hid (fun w => common_any a b w ha hb)
  have C2 := Lib.hid (fun w => common_any b a w hb ha)
  rw [com_comm a b] at C2
  have C3 := Lib.hid (fun w => common_any a a w ha ha)
  rw [com_self a] at C3
  obtain ⟨n, hc⟩ : ∃ n, com a b = n := ⟨_, rfl⟩
  rw [hc] at hn HS HL HF C1 C2
  clear hc
  have hn2 : (n : Int) ≤ 32 := by omega
  go_enter Tryd.func5, Tryd.ntmps5
  go_wp2_with fail
  refine (shown5 w ht).mono ?_
  rintro e1 w1 ⟨rfl, hb1⟩
  have HB1 := Lib.hid hb1
  clear hb1
  go_wp2_with fail
  refine (C1.out _).mono ?_
  rintro e1 w2 ⟨rfl, rfl⟩
  go_wp2_with fail
  go_loop [7, 8] (fun t i => ∃ k S : Nat, k ≤ 32 ∧ i = .int .i64 k ∧ t = .int .u32 S ∧ Hid (S = a / 2 ^ (32 - k))) (fun _ i => 32 - (intOf i).toNat)
  case atStart => exact ⟨0, 0, by omega, rfl, rfl, by show _ = _; rw [Nat.sub_zero, Nat.div_eq_of_lt HA.out]⟩
  case round =>
    obtain ⟨k, S, hk, rfl, rfl, HK⟩ := hrel
    by_cases hlt : k < 32
    · have hS : (S : Int) ≤ 2147483647 := by have := sum_le a k hlt (by omega); rw [← HK.out] at this; omega
      have D1 := Lib.hid (fun w => bit_in a k w ha (by omega))
      have D2 := Lib.hid (fun w => bit_in b k w hb (by omega))
      have HN := Lib.hid (sum_step a k hlt)
      have hx := bitN_le a k
      have hy := bitN_le b k
      have hcase : (k < n ∧ bitN a k = bitN b k) ∨ (k = n ∧ bitN a k ≠ bitN b k) ∨ n < k := by
        rcases Nat.lt_trichotomy k n with h | h | h
        · exact .inl ⟨h, HS.out k h⟩
        · subst h
          have := HL.out hlt
          exact .inr (.inl ⟨rfl, by omega⟩)
        · exact .inr (.inr h)
      rw [← HK.out] at HN
      generalize bitN a k = x at *
      generalize bitN b k = y at *
      rcases hcase with ⟨h1, rfl⟩ | ⟨rfl, h1⟩ | h1
      · have t1 : decide (k < n) = true := by simpa using h1
        have t2 : ((k : Int) == (n : Int)) = false := by rw [beq_eq_false_iff_ne]; omega
        clear h1
        rcases (by omega : x = 0 ∨ x = 1) with rfl | rfl
        all_goals
          go_wp2_with fail
          refine (D1.out _).mono ?_
          rintro e1 w2 ⟨rfl, rfl⟩
          go_wp2_with fail
          refine (D2.out _).mono ?_
          rintro e1 w2 ⟨rfl, rfl⟩
          go_wp2_with fail
          go_round
          case rel => exact ⟨k + 1, _, by omega, by go_num, rfl, HN.out.symm⟩
          case measure => simp [intOf]; omega
      · have t1 : decide (k < k) = false := by simp
        have t2 : ((k : Int) == (k : Int)) = true := by simp
        rcases (by omega : (x = 0 ∧ y = 1) ∨ (x = 1 ∧ y = 0)) with ⟨rfl, rfl⟩ | ⟨rfl, rfl⟩
        all_goals
          go_wp2_with fail
          refine (D1.out _).mono ?_
          rintro e1 w2 ⟨rfl, rfl⟩
          go_wp2_with fail
          refine (D2.out _).mono ?_
          rintro e1 w2 ⟨rfl, rfl⟩
          go_wp2_with fail
          go_round
          case rel => exact ⟨k + 1, _, by omega, by go_num, rfl, HN.out.symm⟩
          case measure => simp [intOf]; omega
      · have t1 : decide (k < n) = false := by simp; omega
        have t2 : ((k : Int) == (n : Int)) = false := by rw [beq_eq_false_iff_ne]; omega
        clear h1 HS HL HF
        rcases (by omega : x = 0 ∨ x = 1) with rfl | rfl
        all_goals
          go_wp2_with fail
          refine (D1.out _).mono ?_
          rintro e1 w2 ⟨rfl, rfl⟩
          go_wp2_with fail
          refine (D2.out _).mono ?_
          rintro e1 w2 ⟨rfl, rfl⟩
          go_wp2_with fail
          go_round
          case rel => exact ⟨k + 1, _, by omega, by go_num, rfl, HN.out.symm⟩
          case measure => simp [intOf]; omega
    · obtain rfl : k = 32 := by omega
      obtain rfl : S = a := by have := HK.out; simpa using this
      rcases Nat.eq_or_lt_of_le hn with h32 | h32
      · have hab := HF.out h32
        subst hab
        subst h32
        clear HS HL HF HK C2
        go_wp2_with fail
        refine (C3.out _).mono ?_
        rintro e1 w2 ⟨rfl, rfl⟩
        go_wp2_with fail
        refine (C3.out _).mono ?_
        rintro e1 w2 ⟨rfl, rfl⟩
        go_wp2_with fail
        go_ret
        exact ⟨rfl, HB1.out⟩
      · have hl := HL.out h32
        have D1 := Lib.hid (fun w => bit_in S n w ha (by omega))
        have D2 := Lib.hid (fun w => bit_in b n w hb (by omega))
        have t2 : ((n : Int) == 32) = false := by rw [beq_eq_false_iff_ne]; omega
        clear HS HL HF HK hn
        generalize bitN S n = x at *
        generalize bitN b n = y at *
        rcases hl with ⟨rfl, rfl, hlt⟩ | ⟨rfl, rfl, hlt⟩
        · have t3 : ((S : Int) == (b : Int)) = false := by rw [beq_eq_false_iff_ne]; omega
          have t4 : decide (S < b) = true := by simpa using hlt
          clear hlt
          go_wp2_with fail
          refine (C2.out _).mono ?_
          rintro e1 w2 ⟨rfl, rfl⟩
          go_wp2_with fail
          refine (C3.out _).mono ?_
          rintro e1 w2 ⟨rfl, rfl⟩
          go_wp2_with fail
          refine (D1.out _).mono ?_
          rintro e1 w2 ⟨rfl, rfl⟩
          go_wp2_with fail
          refine (D2.out _).mono ?_
          rintro e1 w2 ⟨rfl, rfl⟩
          go_wp2_with fail
          go_ret
          exact ⟨rfl, HB1.out⟩
        · have t3 : ((S : Int) == (b : Int)) = false := by rw [beq_eq_false_iff_ne]; omega
          have t4 : decide (S < b) = false := by simp; omega
          clear hlt
          go_wp2_with fail
          refine (C2.out _).mono ?_
          rintro e1 w2 ⟨rfl, rfl⟩
          go_wp2_with fail
          refine (C3.out _).mono ?_
          rintro e1 w2 ⟨rfl, rfl⟩
          go_wp2_with fail
          refine (D1.out _).mono ?_
          rintro e1 w2 ⟨rfl, rfl⟩
          go_wp2_with fail
          refine (D2.out _).mono ?_
          rintro e1 w2 ⟨rfl, rfl⟩
          go_wp2_with fail
          go_ret
          exact ⟨rfl, HB1.out⟩
end Go.Proofs.YtjloiljiighghaaDoor
