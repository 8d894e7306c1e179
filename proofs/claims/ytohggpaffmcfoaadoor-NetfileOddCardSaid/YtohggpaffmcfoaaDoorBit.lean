/- Bits of addresses, plain. No function of the program is named here. -/
import Derived.Test.YtohggpaffmcfoaaDoorBase
import Derived.Laws.BitsAllLaws
namespace Go.Proofs.YtohggpaffmcfoaaDoor
open Go.RowKit
set_option linter.unusedVariables false
set_option maxRecDepth 100000
set_option linter.unusedSimpArgs false

/-- bit i of a, the highest one being bit 0 -/
def bitN (a i : Nat) : Nat := a / 2 ^ (31 - i) % 2
def bitF (a : Nat) (i : Int) : Nat := if 0 ≤ i ∧ i ≤ 31 then bitN a i.toNat else 0
theorem u32_low (x : Nat) (h : x ≤ 4294967295) : bits .and .u32 (x : Int) 1 = ((x % 2 : Nat) : Int) := by
  have := u32_and_nat x 1 (by omega) (by omega)
  rw [show (1 : Nat) = 2 ^ 1 - 1 from rfl, Nat.and_two_pow_sub_one_eq_mod] at this
  exact this
theorem u32_byte (x : Nat) (h : x ≤ 4294967295) : bits .and .u32 (x : Int) 255 = ((x % 256 : Nat) : Int) := by
  have := u32_and_nat x 255 (by omega) (by omega)
  rw [show (255 : Nat) = 2 ^ 8 - 1 from rfl, Nat.and_two_pow_sub_one_eq_mod] at this
  exact this
theorem bitN_le (a i : Nat) : bitN a i ≤ 1 := by unfold bitN; omega
theorem bitN_test (a i : Nat) : bitN a i = (a.testBit (31 - i)).toNat := by
  rw [Nat.testBit_eq_decide_div_mod_eq, bitN]
  have : a / 2 ^ (31 - i) % 2 < 2 := Nat.mod_lt _ (by omega)
  by_cases h : a / 2 ^ (31 - i) % 2 = 1
  · simp [h]
  · simp [show a / 2 ^ (31 - i) % 2 = 0 by omega]
theorem sum_step (a k : Nat) (hk : k < 32) : a / 2 ^ (32 - (k + 1)) = a / 2 ^ (32 - k) * 2 + bitN a k := by
  rw [show 32 - k = (31 - k) + 1 by omega, Nat.pow_succ, ← Nat.div_div_eq_div_mul, show 32 - (k + 1) = 31 - k by omega, bitN]
  omega
theorem sum_le (a k : Nat) (hk : k < 32) (ha : a ≤ 4294967295) : a / 2 ^ (32 - k) ≤ 2147483647 := by
  rw [show 32 - k = (31 - k) + 1 by omega, Nat.pow_succ, Nat.mul_comm, ← Nat.div_div_eq_div_mul]
  exact Nat.le_trans (Nat.div_le_self _ _) (by omega)
theorem high_same (a b n : Nat) (ha : a < 2 ^ 32) (hb : b < 2 ^ 32) (h : ∀ i, i < n → bitN a i = bitN b i) : ∀ k, k ≤ n → k ≤ 32 → a / 2 ^ (32 - k) = b / 2 ^ (32 - k)
  | 0, _, _ => by rw [Nat.sub_zero, Nat.div_eq_of_lt ha, Nat.div_eq_of_lt hb]
  | k + 1, h1, h2 => by rw [sum_step a k (by omega), sum_step b k (by omega), high_same a b n ha hb h k (by omega) (by omega), h k (by omega)]
end Go.Proofs.YtohggpaffmcfoaaDoor
