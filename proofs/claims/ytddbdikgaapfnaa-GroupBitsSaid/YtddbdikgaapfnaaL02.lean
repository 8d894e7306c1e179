/- The helpers of the laws of package theseuslaw02: shown, few. -/
import Derived.Test.YtddbdikgaapfnaaGroup
namespace Go.Proofs.Ytddbdikgaapfnaa
open Go.RowKit
set_option linter.unusedVariables false
set_option linter.unusedSimpArgs false

theorem few2 (A : Option Addr) (n c : Nat) (w : World) (hn : n ≤ c) (hc : c ≤ maxLen) :
    Calls Try.prog 14 #[.slice A n c] w fun e w' => e = .returned (.slice A (min n 20) c) ∧ w = w' := by
  unfold maxLen at hc
  by_cases h : n ≤ 20
  · go_enter Try.func14, Try.ntmps14
    go_wp2
    go_ret
    exact ⟨by rw [Nat.min_eq_left h]; rfl, rfl⟩
  · go_enter Try.func14, Try.ntmps14
    go_wp2
    go_ret
    exact ⟨by rw [Nat.min_eq_right (by omega)]; rfl, rfl⟩
theorem shown2 (w : World) : Calls Try.prog 10 #[] w fun e w' => e = .returned (.bool true) ∧ Below w.heap.size w w' := by
  have e3 : grp 300 = [130, 44] := by decide
  have e4 : gsize 300 = 2 := by decide
  go_enter Try.func10, Try.ntmps10
  go_wp2_with fail
  refine (gput_ok _ _ (by omega) (by omega)).mono ?_
  rintro e w' ⟨rfl, rfl⟩
  rw [show (300 : Int).toNat = 300 from rfl, e3, e4]
  clear e3 e4
  go_wp2_with fail
  have hx := Has.new (w.alloc (.cells (vals [130, 44]).toArray 5)) (vals [130, 44, 9]) 5 (0, 0)
  have hy := (Has.new w (vals [130, 44]) 5 (0, 0)).alloc (.cells (vals [130, 44, 9]).toArray 5)
  rw [World.size_alloc] at hx
  have hc := run_string_of (P := Try.prog) _ 22 5 9 Try.underlying22 Try.underlying5 Try.underlying9 _ 2 2 [130, 44] rfl hy
  have HX := Lib.hid hx
  clear hx hy
  refine (gtake_core _ 3 3 [130, 44, 9] _ rfl (Nat.le_refl _) (by decide) HX.out).mono ?_
  rintro e w' ⟨rfl, rfl⟩
  rw [show takeG [130, 44, 9] = (300, 2, 0) from by decide]
  clear HX
  go_wp2_with (go_at_call 16; refine (gsize_any _ _).mono ?_; rintro e w' ⟨rfl, rfl⟩; rw [show sizeS 300 = 2 from by decide])
  go_ret
  exact ⟨rfl, ((Below.refl _ _).alloc (Nat.le_refl _) _).alloc (by simp) _⟩
theorem mask28 (m : Nat) (hm : m ≤ 4294967295) : ∃ x : Nat, (x : Int) ≤ 268435455 ∧ bits .and .i64 (m : Int) 268435455 = (x : Int) :=
  ⟨m &&& 268435455, by have := Nat.and_le_right (n := m) (m := 268435455); omega, i64_and_nat m 268435455 (by omega) (by omega)⟩
theorem size_pack (x : Nat) : ∃ s : Nat, Hid (gsize x = s) ∧ 1 ≤ (s : Int) ∧ (s : Int) ≤ 4 := ⟨gsize x, rfl, by have := gsize_pos x; omega, by have := gsize_pos x; omega⟩
end Go.Proofs.Ytddbdikgaapfnaa
