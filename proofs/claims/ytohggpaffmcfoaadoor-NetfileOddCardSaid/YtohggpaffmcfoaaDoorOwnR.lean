/- Rows of rules of the call's own, that go along. No function of the program is named here. -/
import Derived.Test.YtohggpaffmcfoaaDoorTblKit
import Derived.Test.YtohggpaffmcfoaaDoorBlk
namespace Go.Proofs.YtohggpaffmcfoaaDoor
open Go.RowKit
set_option linter.unusedVariables false
set_option maxRecDepth 100000
set_option linter.unusedSimpArgs false

def OwnR (e : TypeId) (base : Nat) (v : Value) (l : List Rl) (w : World) : Prop := w.ownsRow base e 4 v l.length (rcells l)
section
variable {e : TypeId} {base base' n : Nat} {v : Value} {l : List Rl} {w wx : World}
theorem OwnR.mk (h : w.ownsRow base e 4 v n (rcells l)) (hb : base' ≤ base) : OwnR e base' v l w := by
  have hl := h.1
  rw [rcells_length] at hl
  have h2 := own_base h hb
  rw [show n = l.length by omega] at h2
  exact h2
theorem OwnR.bel (h : OwnR e base v l w) (hb : Below w.heap.size w wx) : OwnR e base v l wx := own_bel h hb
theorem OwnR.isr (h : OwnR e base v l w) : IsR w v l := IsR.of_own h
end
/-- a value that reads as rules: the slice itself -/
theorem IsR.slice {w : World} {v : Value} {l : List Rl} (h : IsR w v l) : ∃ A c, v = .slice A l.length c ∧ l.length ≤ c ∧ c ≤ maxLen ∧ Has w A (rcells l) := by
  obtain ⟨A, n, c, rfl, h1, h2, rfl, h4⟩ := h
  exact ⟨A, c, rfl, h1, h2, h4⟩
theorem fitT_len (m : Int) (l : List Rl) : (fitT m l).length ≤ l.length := by
  have := insAll_le ((l.take 20).map (fitRl m)) []
  simp only [List.length_nil, List.length_map, List.length_take] at this
  unfold fitT
  omega
theorem Tbl.at_ {l : List Rl} {m : Int} {B : Nat} (h : ∀ r ∈ l, r.at_ ≤ B) : ∀ r ∈ fitT m l, r.at_ ≤ B := by
  have key : ∀ (y o : List Rl), (∀ r ∈ o, r.at_ ≤ B) → (∀ r ∈ y, r.at_ ≤ B) → ∀ r ∈ insAll o y, r.at_ ≤ B := by
    intro y
    induction y with
    | nil => exact fun o ho _ => ho
    | cons z y ih =>
      intro o ho hy
      refine ih (ins o z) (fun r hr => ?_) (fun r hr => hy r (List.mem_cons_of_mem _ hr))
      rcases ins_mem hr with hr | rfl
      · exact ho r hr
      · exact hy r List.mem_cons_self
  refine key _ [] (fun r hr => by cases hr) fun r hr => ?_
  obtain ⟨x, hx, rfl⟩ := List.mem_map.1 hr
  exact Nat.le_trans (fitRl_at m x) (h x (List.mem_of_mem_take hx))
end Go.Proofs.YtohggpaffmcfoaaDoor
