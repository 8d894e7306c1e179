/- A scope in which the run jumps between several labels: what holds at each label ('J l'), and a measure that every jump lowers. -/
import Derived.Test.YtloaaaddbmcpdaaDoorChecked
import Derived.ScopeJumps
import Derived.WalkMore
namespace Go.Proofs.YtloaaaddbmcpdaaDoor
open Go

/-- as Q; by a goto to a label l: J l -/
def Jumps (J : Nat → Act → World → Prop) (Q : Exit → Act → World → Prop) (x : Exit) (a : Act) (w : World) : Prop :=
  match x with
  | .goto l => J l a w
  | y => Q y a w
theorem Jumps.go {J : Nat → Act → World → Prop} {Q : Exit → Act → World → Prop} {l : Nat} {a : Act} {w : World} (h : J l a w) : Jumps J Q (.goto l) a w := h
theorem Jumps.back {J : Nat → Act → World → Prop} {Q : Exit → Act → World → Prop} {a : Act} {w : World} (h : Q .ret a w) : Jumps J Q .ret a w := h
theorem Jumps.norm {J : Nat → Act → World → Prop} {Q : Exit → Act → World → Prop} {a : Act} {w : World} (h : Q .normal a w) : Jumps J Q .normal a w := h

/-- where a run inside the scope has come out by x, the scope comes out -/
theorem scope_out {P : Program} {Q : Exit → Act → World → Prop} {c : Code} {J : Nat → Act → World → Prop} {μ : Nat → Act → World → Nat}
    (pass : ∀ l a w, J l a w → ∃ rest, findLabel c l = some rest ∧ rest.wp P (Jumps (fun l' a' w' => J l' a' w' ∧ μ l' a' w' < μ l a w) Q) a w)
    (b : Frame) (k : List Item) (cs : List Frame) : ∀ (n l : Nat) (a : Act) (w : World), μ l a w ≤ n → J l a w → ∃ rest x a' w', findLabel c l = some rest ∧ Q x a' w' ∧ Arrives P (lone (b.at a (.code rest :: .inScope c :: k)) cs w) b k cs x a' w'
  | n, l, a, w, hn, hJ => by
    obtain ⟨rest, hr, hwp⟩ := pass l a w hJ
    obtain ⟨x, a1, w1, hx, ha⟩ := hwp b (.inScope c :: k) cs
    have hin : ∀ l' rest', findLabel c l' = some rest' → gotoIn l' (.inScope c :: k) = some (.code rest' :: .inScope c :: k) := fun l' rest' h => by simp [gotoIn, h]
    cases x with
    | goto l' =>
      obtain ⟨hJ', hlt⟩ := hx
      cases n with
      | zero => omega
      | succ n =>
        obtain ⟨rest', x2, a2, w2, hr', hx2, ha2⟩ := scope_out pass b k cs n l' a1 w1 (by omega) hJ'
        exact ⟨rest, x2, a2, w2, hr, hx2, .of_steps (ha _ (hin l' rest' hr')) ha2⟩
    | normal => exact ⟨rest, .normal, a1, w1, hr, hx, Steps.trans ha (.one step_inScope)⟩
    | exit id => exact ⟨rest, .exit id, a1, w1, hr, hx, fun k' hk => ha k' (by simp [exitTo, hk])⟩
    | ret => exact ⟨rest, _, a1, w1, hr, hx, ha⟩
    | panic ch => exact ⟨rest, _, a1, w1, hr, hx, ha⟩
    | outgrown => exact ⟨rest, _, a1, w1, hr, hx, ha⟩
theorem wp_labels {P : Program} {a : Act} {w : World} {Q : Exit → Act → World → Prop} {c : Code} (J : Nat → Act → World → Prop) (μ : Nat → Act → World → Nat)
    (first : c.wp P (Jumps J Q) a w)
    (pass : ∀ l a w, J l a w → ∃ rest, findLabel c l = some rest ∧ rest.wp P (Jumps (fun l' a' w' => J l' a' w' ∧ μ l' a' w' < μ l a w) Q) a w) : (Code.scope c).wp P Q a w := by
  intro b k cs
  obtain ⟨x, a1, w1, hx, ha⟩ := first b (.inScope c :: k) cs
  cases x with
  | goto l =>
    obtain ⟨rest, x2, a2, w2, hr, hx2, ha2⟩ := scope_out pass b k cs _ l a1 w1 (Nat.le_refl _) hx
    exact ⟨x2, a2, w2, hx2, .of_steps (.head step_scope (ha _ (by simp [gotoIn, hr]))) ha2⟩
  | normal => exact ⟨.normal, a1, w1, hx, .head step_scope (Steps.trans ha (.one step_inScope))⟩
  | exit id => exact ⟨.exit id, a1, w1, hx, fun k' hk => .head step_scope (ha k' (by simp [exitTo, hk]))⟩
  | ret => exact ⟨_, a1, w1, hx, .of_steps (.one step_scope) ha⟩
  | panic ch => exact ⟨_, a1, w1, hx, .of_steps (.one step_scope) ha⟩
  | outgrown => exact ⟨_, a1, w1, hx, .of_steps (.one step_scope) ha⟩
end Go.Proofs.YtloaaaddbmcpdaaDoor
