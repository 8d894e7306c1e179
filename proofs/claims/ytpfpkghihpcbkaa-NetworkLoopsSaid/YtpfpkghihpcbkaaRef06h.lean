/- Contract of package theseusref06: Holds. -/
import Derived.Test.YtpfpkghihpcbkaaRef06a
namespace Go.Proofs.Ytpfpkghihpcbkaa
open Go.RowKit
set_option linter.unusedVariables false
set_option linter.unusedSimpArgs false

set_option maxHeartbeats 1000000 in
theorem rholds_any (a b : Nat) (n : Int) (w : World) (ha : (a : Int) ≤ 4294967295) (hb : (b : Int) ≤ 4294967295) :
    Calls Try.prog 47 #[.int .u32 a, .int .i64 n, .int .u32 b] w fun e w' => e = .returned (.bool (holdB a (cl n) b)) ∧ w = w' := by
  obtain ⟨c, hc⟩ : ∃ c, cl n = c := ⟨_, rfl⟩
  have hcl := cl_le n
  rw [hc] at hcl ⊢
  have HC : Hid (c = (min (max n 0) 32).toNat) := hc.symm
  have HB := Lib.hid (hold_bits a c b (by omega) (by omega) hcl)
  clear hc
  go_enter Try.func47, Try.ntmps47
  go_wp2
  go_loop [7] (fun i => ∃ k : Nat, k ≤ c ∧ i = .int .i64 k ∧ Hid (∀ j, j < k → bitN a j = bitN b j)) (fun i => 32 - (intOf i).toNat)
  case atStart => exact ⟨0, by omega, rfl, fun j hj => absurd hj (Nat.not_lt_zero j)⟩
  case round =>
    obtain ⟨k, hk, rfl, HK⟩ := hrel
    by_cases hlt : k < c
    · have hn : (k : Int) < n := by have := HC.out; omega
      have h32 : (k : Int) < 32 := by omega
      have C1 := Lib.hid (fun w => rbit_in a k w ha (by omega))
      have C2 := Lib.hid (fun w => rbit_in b k w hb (by omega))
      by_cases he : bitN a k = bitN b k
      · have HN : Hid (∀ j, j < k + 1 → bitN a j = bitN b j) := fun j hj => by
          rcases Nat.lt_or_ge j k with h | h
          · exact HK.out j h
          · rw [show j = k by omega]; exact he
        rw [he] at C1
        clear he
        have t1 : ((bitN b k : Int) != (bitN b k : Int)) = false := by simp
        go_wp2_with fail
        refine (C1.out w).mono ?_
        rintro e1 w1 ⟨rfl, rfl⟩
        go_wp2_with fail
        refine (C2.out w).mono ?_
        rintro e1 w1 ⟨rfl, rfl⟩
        go_wp2_with fail
        go_round
        case rel => exact ⟨k + 1, by omega, by go_num, HN⟩
        case measure => simp [intOf]; omega
      · have HE : Hid (holdB a c b = false) := by
          show _ = _
          rw [← Bool.not_eq_true, HB.out]
          exact fun h => he (h k hlt)
        have t1 : ((bitN a k : Int) != (bitN b k : Int)) = true := by rw [bne_iff_ne]; omega
        clear he
        go_wp2_with fail
        refine (C1.out w).mono ?_
        rintro e1 w1 ⟨rfl, rfl⟩
        go_wp2_with fail
        refine (C2.out w).mono ?_
        rintro e1 w1 ⟨rfl, rfl⟩
        go_wp2_with fail
        go_ret
        exact ⟨by rw [HE.out]; rfl, rfl⟩
    · obtain rfl : k = c := by omega
      have HE : Hid (holdB a k b = true) := HB.out.2 HK.out
      by_cases h32 : k < 32
      · have hn : ¬ (k : Int) < n := by have := HC.out; omega
        go_wp2_with fail
        go_ret
        exact ⟨by rw [HE.out]; rfl, rfl⟩
      · obtain rfl : k = 32 := by omega
        go_wp2_with fail
        go_ret
        exact ⟨by rw [HE.out]; rfl, rfl⟩
end Go.Proofs.Ytpfpkghihpcbkaa
