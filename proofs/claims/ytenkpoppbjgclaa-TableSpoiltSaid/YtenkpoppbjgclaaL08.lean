/- The helpers of the laws of package theseuslaw08: few, shown. -/
import Derived.Test.YtenkpoppbjgclaaTbl
import Derived.Test.YtenkpoppbjgclaaFrmT8
namespace Go.Proofs.Ytenkpoppbjgclaa
open Go.RowKit
set_option linter.unusedVariables false
set_option linter.unusedSimpArgs false

theorem few8 (A : Option Addr) (n c : Nat) (w : World) (hn : n ≤ c) (hc : c ≤ maxLen) :
    Calls Try.prog 11 #[.slice A n c] w fun e w' => e = .returned (.slice A (min n 30) c) ∧ w = w' := by
  unfold maxLen at hc
  have hm : (min (n : Int) 30).toNat = min n 30 := by omega
  have HM := Lib.hid hm
  clear hm
  go_enter Try.func11, Try.ntmps11
  go_wp2
  go_ret
  exact ⟨by rw [← HM.out]; rfl, rfl⟩
theorem InR.at_ {w : World} {a : Option Addr} {n c : Nat} {l : List Rl} (h : InR w a n c l) : ∀ r ∈ l, r.at_ ≤ 4294967295 := fun r hr => (h.wf r hr).1
/-- so many of the first ones -/
theorem InR.first {w : World} {a : Option Addr} {n c : Nat} {l : List Rl} (h : InR w a n c l) (k : Nat) : InR w a (min n k) c (l.take k) := by
  obtain ⟨h1, h2, h3, h4, h5⟩ := h
  refine ⟨by rw [List.length_take, h1]; omega, by omega, h3, ?_, fun r hr => h5 r (List.mem_of_mem_take hr)⟩
  rw [rcells_take]
  exact h4.take _
theorem find_example : nextT (findF [⟨167772160, 8, 1, 1⟩, ⟨167837696, 16, 1, 2⟩] 167838211) = (2, true) := by decide +kernel
theorem shown8 (w : World) : Calls Try.prog 10 #[] w fun e w' => e = .returned (.bool true) ∧ Below w.heap.size w w' := by
  have hv : Hid (IsR (w.alloc (.cells (rcells [⟨167772160, 8, 1, 1⟩, ⟨167837696, 16, 1, 2⟩]).toArray 27)) (.slice (some ⟨w.heap.size, 0, none⟩) 2 2) [⟨167772160, 8, 1, 1⟩, ⟨167837696, 16, 1, 2⟩]) := ⟨_, _, _, rfl, Nat.le_refl _, by decide, rfl, Has.new _ _ _ _⟩
  have c := tnext_any _ _ 167838211 _ hv.out (by decide) (by decide)
  rw [find_example] at c
  have C := Lib.hid c
  clear c hv
  go_enter Try.func10, Try.ntmps10
  go_wp2_with fail
  refine C.out.mono ?_
  rintro e1 w1 ⟨rfl, hb⟩
  have HB := Lib.hid (unbox hb)
  clear hb
  go_wp2_with fail
  go_ret
  exact ⟨rfl, HB.out⟩
end Go.Proofs.Ytenkpoppbjgclaa
