/- Contracts of package rule: May, Compare. -/
import Derived.Test.YtohggpaffmcfoaaDoorPfxC
import Derived.Test.YtohggpaffmcfoaaDoorMath
namespace Go.Proofs.YtohggpaffmcfoaaDoor
open Go.RowKit
set_option linter.unusedVariables false
set_option maxRecDepth 100000
set_option linter.unusedSimpArgs false

theorem boxed {w w1 : World} {cs : Array Value} {t : TypeId} (h : Below (w.alloc (.cells cs t)).heap.size (w.alloc (.cells cs t)) w1) (j : Nat) : w1.cell? ⟨w.heap.size, j, none⟩ = cs[j]? := by
  rw [h.cell (by simp only [World.size_alloc]; omega), World.cell?_alloc_mark]
theorem unbox {w w1 : World} {o : Obj} (h : Below (w.alloc o).heap.size (w.alloc o) w1) : Below w.heap.size w w1 :=
  ((Below.refl w.heap.size w).alloc (Nat.le_refl _) o).trans (h.mono (by simp only [World.size_alloc]; omega))
theorem unbox2 {w w1 : World} {o p : Obj} (h : Below ((w.alloc o).alloc p).heap.size ((w.alloc o).alloc p) w1) : Below w.heap.size w w1 := unbox ((unbox h).mono (Nat.le_refl _))
theorem compr_any (a b : Nat) (l c n m d k : Int) (w : World) :
    Calls Tryd.prog 64 #[.agg #[.int .u32 a, .int .i64 l, .int .i64 c, .int .i64 n], .agg #[.int .u32 b, .int .i64 m, .int .i64 d, .int .i64 k]] w fun e w' => e = .returned (.int .i64 (cmpI a l b m)) ∧ Below w.heap.size w w' := by
  go_enter Tryd.func64, Tryd.ntmps64
  go_wp2_with fail
  refine (compare_any a b l m _).mono ?_
  rintro e1 w1 ⟨rfl, hb⟩
  have HB := Lib.hid (unbox2 hb)
  clear hb
  go_wp2_with fail
  go_ret
  exact ⟨rfl, HB.out⟩
set_option maxHeartbeats 1000000 in
theorem mayr_any (a : Nat) (l c n nodes : Int) (w : World) (ha : (a : Int) ≤ 4294967295) :
    Calls Tryd.prog 63 #[.agg #[.int .u32 a, .int .i64 l, .int .i64 c, .int .i64 n], .int .i64 nodes] w fun e w' => e = .returned (.int .i64 (mayR a l c n nodes)) ∧ Below w.heap.size w w' := by
  have C := Lib.hid (fun w => may_any a l w ha)
  by_cases he : mayI a l = 0
  · rw [he] at C
    by_cases h1 : c = 1
    · subst h1
      by_cases h2 : n < 0
      · have HE := Lib.hid (mayR_next_no (nodes := nodes) he (.inl h2))
        clear he
        go_enter Tryd.func63, Tryd.ntmps63
        go_wp2_with fail
        refine (C.out _).mono ?_
        rintro e1 w1 ⟨rfl, hb⟩
        have h2 := boxed hb 2
        have h3 := boxed hb 3
        simp at h2 h3
        have HB := Lib.hid (unbox hb)
        clear hb
        go_wp2_with fail
        go_ret
        exact ⟨by rw [HE.out]; rfl, HB.out⟩
      · have h3 : 0 ≤ n := by omega
        clear h2
        by_cases h4 : nodes ≤ n
        · have HE := Lib.hid (mayR_next_no (nodes := nodes) he (.inr h4))
          clear he
          go_enter Tryd.func63, Tryd.ntmps63
          go_wp2_with fail
          refine (C.out _).mono ?_
          rintro e1 w1 ⟨rfl, hb⟩
          have h2 := boxed hb 2
          have h3 := boxed hb 3
          simp at h2 h3
          have HB := Lib.hid (unbox hb)
          clear hb
          go_wp2_with fail
          go_ret
          exact ⟨by rw [HE.out]; rfl, HB.out⟩
        · have h5 : n < nodes := by omega
          have HE := Lib.hid (mayR_next he h3 h5)
          clear he h4
          go_enter Tryd.func63, Tryd.ntmps63
          go_wp2_with fail
          refine (C.out _).mono ?_
          rintro e1 w1 ⟨rfl, hb⟩
          have h2 := boxed hb 2
          have h3 := boxed hb 3
          simp at h2 h3
          have HB := Lib.hid (unbox hb)
          clear hb
          go_wp2_with fail
          go_ret
          exact ⟨by rw [HE.out]; rfl, HB.out⟩
    · by_cases h2 : c = 2 ∨ c = 3
      · by_cases h3 : n = 0
        · subst h3
          have HE := Lib.hid (mayR_end nodes he h2)
          clear he h1
          rcases h2 with rfl | rfl
          · skip
            go_enter Tryd.func63, Tryd.ntmps63
            go_wp2_with fail
            refine (C.out _).mono ?_
            rintro e1 w1 ⟨rfl, hb⟩
            have h2 := boxed hb 2
            have h3 := boxed hb 3
            simp at h2 h3
            have HB := Lib.hid (unbox hb)
            clear hb
            go_wp2_with fail
            go_ret
            exact ⟨by rw [HE.out]; rfl, HB.out⟩
          · skip
            go_enter Tryd.func63, Tryd.ntmps63
            go_wp2_with fail
            refine (C.out _).mono ?_
            rintro e1 w1 ⟨rfl, hb⟩
            have h2 := boxed hb 2
            have h3 := boxed hb 3
            simp at h2 h3
            have HB := Lib.hid (unbox hb)
            clear hb
            go_wp2_with fail
            go_ret
            exact ⟨by rw [HE.out]; rfl, HB.out⟩
        · have HE := Lib.hid (mayR_end_no nodes he h2 h3)
          have t1 : (n != 0) = true := by rw [bne_iff_ne]; exact h3
          clear he h1
          rcases h2 with rfl | rfl
          · skip
            go_enter Tryd.func63, Tryd.ntmps63
            go_wp2_with fail
            refine (C.out _).mono ?_
            rintro e1 w1 ⟨rfl, hb⟩
            have h2 := boxed hb 2
            have h3 := boxed hb 3
            simp at h2 h3
            have HB := Lib.hid (unbox hb)
            clear hb
            go_wp2_with fail
            go_ret
            exact ⟨by rw [HE.out]; rfl, HB.out⟩
          · skip
            go_enter Tryd.func63, Tryd.ntmps63
            go_wp2_with fail
            refine (C.out _).mono ?_
            rintro e1 w1 ⟨rfl, hb⟩
            have h2 := boxed hb 2
            have h3 := boxed hb 3
            simp at h2 h3
            have HB := Lib.hid (unbox hb)
            clear hb
            go_wp2_with fail
            go_ret
            exact ⟨by rw [HE.out]; rfl, HB.out⟩
      · have g3 : c ≠ 2 := fun h => h2 (.inl h)
        have g4 : c ≠ 3 := fun h => h2 (.inr h)
        have HE := Lib.hid (mayR_act n nodes he h1 g3 g4)
        have t1 : (c == 1) = false := by rw [beq_eq_false_iff_ne]; exact h1
        have t2 : (c == 2) = false := by rw [beq_eq_false_iff_ne]; exact g3
        have t3 : (c == 3) = false := by rw [beq_eq_false_iff_ne]; exact g4
        have u1 : (c != 1) = true := by rw [bne_iff_ne]; exact h1
        have u2 : (c != 2) = true := by rw [bne_iff_ne]; exact g3
        have u3 : (c != 3) = true := by rw [bne_iff_ne]; exact g4
        clear he h1 h2 g3 g4
        go_enter Tryd.func63, Tryd.ntmps63
        go_wp2_with fail
        refine (C.out _).mono ?_
        rintro e1 w1 ⟨rfl, hb⟩
        have h2 := boxed hb 2
        have h3 := boxed hb 3
        simp at h2 h3
        have HB := Lib.hid (unbox hb)
        clear hb
        go_wp2_with fail
        go_ret
        exact ⟨by rw [HE.out]; rfl, HB.out⟩
  · have HE := Lib.hid (mayR_pfx c n nodes he)
    have t1 : (mayI a l != 0) = true := by rw [bne_iff_ne]; exact he
    clear he
    go_enter Tryd.func63, Tryd.ntmps63
    go_wp2_with fail
    refine (C.out _).mono ?_
    rintro e1 w1 ⟨rfl, hb⟩
    have h2 := boxed hb 2
    have h3 := boxed hb 3
    simp at h2 h3
    have HB := Lib.hid (unbox hb)
    clear hb
    go_wp2_with fail
    go_ret
    exact ⟨by rw [HE.out]; rfl, HB.out⟩
end Go.Proofs.YtohggpaffmcfoaaDoor
