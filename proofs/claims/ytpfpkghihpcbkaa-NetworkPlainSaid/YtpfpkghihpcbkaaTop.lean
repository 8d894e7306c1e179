/- The greatest number up to a bound of which something holds: the measure of a loop whose count stands in no slot. -/
namespace Go.Proofs.Ytpfpkghihpcbkaa
open Classical in
noncomputable def top (p : Nat → Prop) : Nat → Nat
  | 0 => 0
  | M + 1 => if p (M + 1) then M + 1 else top p M
theorem top_le (p : Nat → Prop) : ∀ M, top p M ≤ M
  | 0 => Nat.le_refl _
  | M + 1 => by
    unfold top
    split
    · exact Nat.le_refl _
    · exact Nat.le_succ_of_le (top_le p M)
theorem le_top {p : Nat → Prop} : ∀ {M k : Nat}, k ≤ M → p k → k ≤ top p M
  | 0, k, h, _ => h
  | M + 1, k, h, hk => by
    unfold top
    split
    · exact h
    · rename_i hn
      rcases Nat.lt_or_ge k (M + 1) with g | g
      · exact le_top (Nat.le_of_lt_succ g) hk
      · exact absurd ((Nat.le_antisymm h g) ▸ hk) hn
theorem top_is {p : Nat → Prop} : ∀ {M : Nat}, (∃ k, k ≤ M ∧ p k) → p (top p M)
  | 0, ⟨k, h, hk⟩ => by
    obtain rfl : k = 0 := by omega
    exact hk
  | M + 1, ⟨k, h, hk⟩ => by
    unfold top
    split
    · rename_i hy; exact hy
    · rename_i hn
      rcases Nat.lt_or_ge k (M + 1) with g | g
      · exact top_is ⟨k, Nat.le_of_lt_succ g, hk⟩
      · exact absurd ((Nat.le_antisymm h g) ▸ hk) hn
theorem top_falls {p q : Nat → Prop} {M k : Nat} (hk : k = top p M) (hq : q (k + 1)) (h : k + 1 ≤ M) : M - top q M < M - top p M := by
  have h1 := le_top h hq
  omega
end Go.Proofs.Ytpfpkghihpcbkaa
