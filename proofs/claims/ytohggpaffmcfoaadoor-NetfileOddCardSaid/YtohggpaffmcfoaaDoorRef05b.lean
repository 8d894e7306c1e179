/- Contracts of package theseusref05: Bit. -/
import Derived.Test.YtohggpaffmcfoaaDoorBit
namespace Go.Proofs.YtohggpaffmcfoaaDoor
open Go.RowKit
set_option linter.unusedVariables false
set_option maxRecDepth 100000
set_option linter.unusedSimpArgs false

theorem rbit_out (a : Nat) (i : Int) (w : World) (ha : (a : Int) ≤ 4294967295) (h : ¬ (0 ≤ i ∧ i ≤ 31)) :
    Calls Tryd.prog 94 #[.int .u32 a, .int .i64 i] w fun e w' => e = .returned (.int .i64 0) ∧ w = w' := by
  by_cases h1 : i < 0
  · clear h
    go_enter Tryd.func94, Tryd.ntmps94
    go_wp2
    go_ret
    exact ⟨rfl, rfl⟩
  · have h2 : 31 < i := by omega
    have h3 : 0 ≤ i := by omega
    clear h
    go_enter Tryd.func94, Tryd.ntmps94
    go_wp2
    go_ret
    exact ⟨rfl, rfl⟩
theorem rbit_in (a i : Nat) (w : World) (ha : (a : Int) ≤ 4294967295) (hi : (i : Int) ≤ 31) :
    Calls Tryd.prog 94 #[.int .u32 a, .int .i64 i] w fun e w' => e = .returned (.int .i64 (bitN a i : Int)) ∧ w = w' := by
  have h0 : 0 ≤ (i : Int) := by omega
  obtain ⟨j, hj⟩ : ∃ j : Nat, (31 : Int) - (i : Int) = (j : Int) := ⟨31 - i, by omega⟩
  have hj2 : j = 31 - i := by omega
  go_enter Tryd.func94, Tryd.ntmps94
  go_wp2
  go_ret
  refine ⟨?_, rfl⟩
  have e : (a : Int) / 2 ^ (31 - i) = ((a / 2 ^ (31 - i) : Nat) : Int) := by rw [Int.natCast_ediv, Int.natCast_pow]; rfl
  have l : a / 2 ^ (31 - i) ≤ 4294967295 := Nat.le_trans (Nat.div_le_self _ _) (by omega)
  rw [e, u32_low _ l]
  show Ending.returned (.int .i64 (wrap64 ((bitN a i : Nat) : Int))) = _
  have l2 : bitN a i < 2 := Nat.mod_lt _ (by omega)
  rw [show wrap64 ((bitN a i : Nat) : Int) = (bitN a i : Int) by unfold wrap64; omega]
theorem rbit_any (a : Nat) (i : Int) (w : World) (ha : (a : Int) ≤ 4294967295) :
    Calls Tryd.prog 94 #[.int .u32 a, .int .i64 i] w fun e w' => e = .returned (.int .i64 (bitF a i : Int)) ∧ w = w' := by
  by_cases h : 0 ≤ i ∧ i ≤ 31
  · rw [bitF, if_pos h]
    obtain ⟨n, rfl⟩ := Int.eq_ofNat_of_zero_le h.1
    rw [Int.toNat_natCast]
    exact rbit_in a n w ha h.2
  · rw [bitF, if_neg h]
    exact rbit_out a i w ha h

end Go.Proofs.YtohggpaffmcfoaaDoor
