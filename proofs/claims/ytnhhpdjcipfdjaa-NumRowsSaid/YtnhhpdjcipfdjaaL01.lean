/- The helpers of the laws of package theseuslaw01: shown, few, short. -/
import Derived.Test.YtnhhpdjcipfdjaaNum
namespace Go.Proofs.Ytnhhpdjcipfdjaa
open Go.RowKit
set_option linter.unusedVariables false
set_option linter.unusedSimpArgs false

theorem few1 (A : Option Addr) (n c : Nat) (w : World) (hn : n ≤ c) (hc : c ≤ maxLen) :
    Calls Try.prog 16 #[.slice A n c] w fun e w' => e = .returned (.slice A (min n 40) c) ∧ w = w' := by
  unfold maxLen at hc
  by_cases h : n ≤ 40
  · go_enter Try.func16, Try.ntmps16
    go_wp2
    go_ret
    exact ⟨by rw [Nat.min_eq_left h]; rfl, rfl⟩
  · go_enter Try.func16, Try.ntmps16
    go_wp2
    go_ret
    exact ⟨by rw [Nat.min_eq_right (by omega)]; rfl, rfl⟩
theorem short1 (A : Option Addr) (n c : Nat) (w : World) (hn : n ≤ c) (hc : c ≤ maxLen) :
    Calls Try.prog 10 #[.slice A n c] w fun e w' => e = .returned (.slice A (min n 20) c) ∧ w = w' := by
  unfold maxLen at hc
  by_cases h : n ≤ 20
  · go_enter Try.func10, Try.ntmps10
    go_wp2
    go_ret
    exact ⟨by rw [Nat.min_eq_left h]; rfl, rfl⟩
  · go_enter Try.func10, Try.ntmps10
    go_wp2
    go_ret
    exact ⟨by rw [Nat.min_eq_right (by omega)]; rfl, rfl⟩
theorem shown1 (w : World) : Calls Try.prog 9 #[] w fun e w' => e = .returned (.bool true) ∧ Below w.heap.size w w' := by
  have e3 : be 3 258 = [0, 1, 2] := by decide
  go_enter Try.func9, Try.ntmps9
  go_wp2_with fail
  refine (put_ok _ _ _ (by omega) (by omega) (by omega) (by decide)).mono ?_
  rintro e w' ⟨rfl, rfl⟩
  rw [show (3 : Int).toNat = 3 from rfl, show (258 : Int).toNat = 258 from rfl, e3]
  clear e3
  go_wp2_with fail
  have hx := Has.new (w.alloc (.cells (vals [0, 1, 2]).toArray 5)) (vals [0, 1, 2, 9]) 5 (0, 0)
  have hy := (Has.new w (vals [0, 1, 2]) 5 (0, 0)).alloc (.cells (vals [0, 1, 2, 9]).toArray 5)
  rw [World.size_alloc] at hx
  have hc := run_string_of (P := Try.prog) _ 23 5 9 Try.underlying23 Try.underlying5 Try.underlying9 _ 3 3 [0, 1, 2] rfl hy
  have HX := Lib.hid hx
  clear hx hy
  refine (take_ok _ _ _ [0, 1, 2, 9] _ _ rfl (by decide) HX.out (by omega) (by omega) (by decide)).mono ?_
  rintro e w' ⟨rfl, rfl⟩
  rw [show val (List.take (3 : Int).toNat [0, 1, 2, 9]) = 258 from rfl]
  clear HX
  go_wp2_with fail
  go_ret
  exact ⟨rfl, ((Below.refl _ _).alloc (Nat.le_refl _) _).alloc (by simp) _⟩
end Go.Proofs.Ytnhhpdjcipfdjaa
