/- Contracts of package theseusref07 (the document's answers for layer 7): May, Compare. -/
import Derived.Test.YtohggpaffmcfoaaDoorRef06a
import Derived.Test.YtohggpaffmcfoaaDoorRulM
namespace Go.Proofs.YtohggpaffmcfoaaDoor
open Go.RowKit
set_option linter.unusedVariables false
set_option maxRecDepth 100000
set_option linter.unusedSimpArgs false

theorem rcompr_any (a b : Nat) (l c n m d k : Int) (w : World) :
    Calls Tryd.prog 62 #[.agg #[.int .u32 a, .int .i64 l, .int .i64 c, .int .i64 n], .agg #[.int .u32 b, .int .i64 m, .int .i64 d, .int .i64 k]] w fun e w' => e = .returned (.int .i64 (cmpI a l b m)) ∧ Below w.heap.size w w' := by
  go_enter Tryd.func62, Tryd.ntmps62
  go_wp2_with fail
  refine (rcompare_any a b l m _).mono ?_
  rintro e1 w1 ⟨rfl, rfl⟩
  go_wp2_with fail
  go_ret
  exact ⟨rfl, ((Below.refl w.heap.size w).alloc (Nat.le_refl _) _).alloc (by simp only [World.size_alloc]; omega) _⟩
set_option maxHeartbeats 1000000 in
theorem rmayr_any (a : Nat) (l c n nodes : Int) (w : World) (ha : (a : Int) ≤ 4294967295) :
    Calls Tryd.prog 74 #[.agg #[.int .u32 a, .int .i64 l, .int .i64 c, .int .i64 n], .int .i64 nodes] w fun e w' => e = .returned (.int .i64 (mayR a l c n nodes)) ∧ Below w.heap.size w w' := by
  have C := Lib.hid (fun w => rmay_any a l w ha)
  by_cases he : mayI a l = 0
  · rw [he] at C
    by_cases h1 : c = 1
    · subst h1
      by_cases h2 : n < 0
      · have HE := Lib.hid (mayR_next_no (nodes := nodes) he (.inl h2))
        clear he
        go_enter Tryd.func74, Tryd.ntmps74
        go_wp2_with fail
        refine (C.out _).mono ?_
        rintro e1 w1 ⟨rfl, rfl⟩
        go_wp2_with fail
        go_ret
        exact ⟨by rw [HE.out]; rfl, (Below.refl w.heap.size w).alloc (Nat.le_refl _) _⟩
      · have h3 : 0 ≤ n := by omega
        clear h2
        by_cases h4 : nodes ≤ n
        · have HE := Lib.hid (mayR_next_no (nodes := nodes) he (.inr h4))
          clear he
          go_enter Tryd.func74, Tryd.ntmps74
          go_wp2_with fail
          refine (C.out _).mono ?_
          rintro e1 w1 ⟨rfl, rfl⟩
          go_wp2_with fail
          go_ret
          exact ⟨by rw [HE.out]; rfl, (Below.refl w.heap.size w).alloc (Nat.le_refl _) _⟩
        · have h5 : n < nodes := by omega
          have HE := Lib.hid (mayR_next he h3 h5)
          clear he h4
          go_enter Tryd.func74, Tryd.ntmps74
          go_wp2_with fail
          refine (C.out _).mono ?_
          rintro e1 w1 ⟨rfl, rfl⟩
          go_wp2_with fail
          go_ret
          exact ⟨by rw [HE.out]; rfl, (Below.refl w.heap.size w).alloc (Nat.le_refl _) _⟩
    · by_cases h2 : c = 2 ∨ c = 3
      · by_cases h3 : n = 0
        · subst h3
          have HE := Lib.hid (mayR_end nodes he h2)
          clear he h1
          rcases h2 with rfl | rfl
          · skip
            go_enter Tryd.func74, Tryd.ntmps74
            go_wp2_with fail
            refine (C.out _).mono ?_
            rintro e1 w1 ⟨rfl, rfl⟩
            go_wp2_with fail
            go_ret
            exact ⟨by rw [HE.out]; rfl, (Below.refl w.heap.size w).alloc (Nat.le_refl _) _⟩
          · skip
            go_enter Tryd.func74, Tryd.ntmps74
            go_wp2_with fail
            refine (C.out _).mono ?_
            rintro e1 w1 ⟨rfl, rfl⟩
            go_wp2_with fail
            go_ret
            exact ⟨by rw [HE.out]; rfl, (Below.refl w.heap.size w).alloc (Nat.le_refl _) _⟩
        · have HE := Lib.hid (mayR_end_no nodes he h2 h3)
          have t1 : (n != 0) = true := by rw [bne_iff_ne]; exact h3
          clear he h1
          rcases h2 with rfl | rfl
          · skip
            go_enter Tryd.func74, Tryd.ntmps74
            go_wp2_with fail
            refine (C.out _).mono ?_
            rintro e1 w1 ⟨rfl, rfl⟩
            go_wp2_with fail
            go_ret
            exact ⟨by rw [HE.out]; rfl, (Below.refl w.heap.size w).alloc (Nat.le_refl _) _⟩
          · skip
            go_enter Tryd.func74, Tryd.ntmps74
            go_wp2_with fail
            refine (C.out _).mono ?_
            rintro e1 w1 ⟨rfl, rfl⟩
            go_wp2_with fail
            go_ret
            exact ⟨by rw [HE.out]; rfl, (Below.refl w.heap.size w).alloc (Nat.le_refl _) _⟩
      · have g3 : c ≠ 2 := fun h => h2 (.inl h)
        have g4 : c ≠ 3 := fun h => h2 (.inr h)
        have HE := Lib.hid (mayR_act n nodes he h1 g3 g4)
        have t1 : (c == 1) = false := by rw [beq_eq_false_iff_ne]; exact h1
        have t2 : (c == 2) = false := by rw [beq_eq_false_iff_ne]; exact g3
        have t3 : (c == 3) = false := by rw [beq_eq_false_iff_ne]; exact g4
        have u1 : (c != 1) = true := by rw [bne_iff_ne]; exact h1
        have u2 : (c != 2) = true := by rw [bne_iff_ne]; exact g3
        have u3 : (c != 3) = true := by rw [bne_iff_ne]; exact g4
        clear he h1 h2 g3 g4
        go_enter Tryd.func74, Tryd.ntmps74
        go_wp2_with fail
        refine (C.out _).mono ?_
        rintro e1 w1 ⟨rfl, rfl⟩
        go_wp2_with fail
        go_ret
        exact ⟨by rw [HE.out]; rfl, (Below.refl w.heap.size w).alloc (Nat.le_refl _) _⟩
  · have HE := Lib.hid (mayR_pfx c n nodes he)
    have t1 : (mayI a l != 0) = true := by rw [bne_iff_ne]; exact he
    clear he
    go_enter Tryd.func74, Tryd.ntmps74
    go_wp2_with fail
    refine (C.out _).mono ?_
    rintro e1 w1 ⟨rfl, rfl⟩
    go_wp2_with fail
    go_ret
    exact ⟨by rw [HE.out]; rfl, (Below.refl w.heap.size w).alloc (Nat.le_refl _) _⟩
end Go.Proofs.YtohggpaffmcfoaaDoor
