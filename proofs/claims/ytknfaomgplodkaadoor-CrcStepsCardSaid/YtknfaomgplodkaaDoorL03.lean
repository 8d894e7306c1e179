/- The helpers of the laws of package theseuslaw03: shown, few. -/
import Derived.Test.YtknfaomgplodkaaDoorCrc
import Derived.Lib.SlBytesConst
namespace Go.Proofs.YtknfaomgplodkaaDoor
open Go.RowKit
set_option linter.unusedVariables false
set_option linter.unusedSimpArgs false

theorem few3 (A : Option Addr) (n c : Nat) (w : World) (hn : n ≤ c) (hc : c ≤ maxLen) :
    Calls Tryd.prog 10 #[.slice A n c] w fun e w' => e = .returned (.slice A (min n 100) c) ∧ w = w' := by
  unfold maxLen at hc
  by_cases h : n ≤ 100
  · go_enter Tryd.func10, Tryd.ntmps10
    go_wp2
    go_ret
    exact ⟨by rw [Nat.min_eq_left h]; rfl, rfl⟩
  · go_enter Tryd.func10, Tryd.ntmps10
    go_wp2
    go_ret
    exact ⟨by rw [Nat.min_eq_right (by omega)]; rfl, rfl⟩
theorem sum_example : sumN [49, 50, 51, 52, 53, 54, 55, 56, 57] = 3808858755 := by decide +kernel
theorem shown3 (w : World) (ht : Hid (Tab w)) : Calls Tryd.prog 8 #[] w fun e w' => e = .returned (.bool true) ∧ Below w.heap.size w w' := by
  have kc := fun (w : World) (C : Array Value) (n c : Nat) => Lib.run_convert_bytes_const (P := Tryd.prog) w 22 5 C n c Tryd.underlying22 Tryd.underlying5
  have hb : Below w.heap.size w (w.alloc (.cells (vals [49, 50, 51, 52, 53, 54, 55, 56, 57]).toArray 5 (9, 10))) := (Below.refl _ _).alloc (Nat.le_refl _) _
  have hv := IsB.new w [49, 50, 51, 52, 53, 54, 55, 56, 57] 5 (9, 10) 9 rfl (by decide)
  have HT : Hid (Tab (w.alloc (.cells (vals [49, 50, 51, 52, 53, 54, 55, 56, 57]).toArray 5 (9, 10)))) := ht.out.bel hb
  have HV := Lib.hid hv
  have HB := Lib.hid hb
  clear hb hv
  go_enter Tryd.func8, Tryd.ntmps8
  go_wp2_with fail
  refine (sum_any _ _ _ HV.out HT).mono ?_
  rintro e w' ⟨rfl, rfl⟩
  rw [sum_example]
  go_wp2_with fail
  go_ret
  exact ⟨rfl, HB.out⟩
end Go.Proofs.YtknfaomgplodkaaDoor
