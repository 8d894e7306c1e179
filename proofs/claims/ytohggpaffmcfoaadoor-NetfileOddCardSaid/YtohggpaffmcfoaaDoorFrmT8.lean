/- How rows of rules that came in are opened for a walk. No function of the program is named here. -/
import Derived.Test.YtohggpaffmcfoaaDoorFrmR
import Derived.Test.YtohggpaffmcfoaaDoorTblKit
namespace Go.Proofs.YtohggpaffmcfoaaDoor
open Go.ChangeShapes Go.WideShapes Go.ChangeAt Go.RowKit
set_option linter.unusedVariables false
set_option maxRecDepth 100000
set_option linter.unusedSimpArgs false

/-- rules that came in -/
structure InR (w : World) (a : Option Addr) (n c : Nat) (l : List Rl) : Prop where
  len : l.length = n
  cap : n ≤ c
  max : c ≤ maxLen
  has : Has w a (rcells l)
  wf : ∀ r ∈ l, r.at_ ≤ 4294967295 ∧ (Lit.int .i64 r.len).wf = true ∧ (Lit.int .i64 r.act).wf = true ∧ (Lit.int .i64 r.nxt).wf = true
theorem InR.isr {w : World} {a : Option Addr} {n c : Nat} {l : List Rl} (h : InR w a n c l) : IsR w (.slice a n c) l := ⟨_, _, _, rfl, h.cap, h.max, h.len, h.has⟩
theorem cells_at {w : World} {base : Nat} {a : Addr} {n : Nat} {cs : List Value} (h : w.cells? base a n = some cs) (j : Nat) (hj : j < n) : w.cell? (a.add j) = cs[j]? := by
  unfold World.cells? at h
  split at h
  · have := mapM_some_get h j j (by simp [hj])
    simpa using this
  · cases h
theorem InR.of_trod {H : Type} {enc : TypeId × Value → H} {P : Program} {w : World} {base : Nat} {sp : Nat → Bool} {hd : Bool} {T t : TypeId} {f0 f1 f2 f3 : Field} {a : Option Addr} {n c : Nat} {d : DataW H} {p : List MemPlace}
    (hT : P.underlying T = some (.slice t))
    (ht : P.underlying t = some (.struct #[f0, f1, f2, f3])) (h0 : P.underlying f0.type = some (.int .u32)) (h1 : P.underlying f1.type = some (.int .i64)) (h2 : P.underlying f2.type = some (.int .i64)) (h3 : P.underlying f3.type = some (.int .i64))
    (o0 : f0.offset = 0) (o1 : f1.offset = 1) (o2 : f2.offset = 2) (o3 : f3.offset = 3) (c0 : P.cellsOf f0.type = 1) (c1 : P.cellsOf f1.type = 1) (c2 : P.cellsOf f2.type = 1) (c3 : P.cellsOf f3.type = 1) (hC : P.cellsOf t = 4)
    (h : DataW.Trod enc P w base sp hd T (.slice a n c) d p) : ∃ l, InR w a n c l := by
  obtain ⟨fuel, hf⟩ := h
  rcases DataW.trod_slice hT hf with ⟨hcs, _⟩ | ⟨x, len, cap, elems, rest, m, _, hcs, _, _, hl, hm, hlen, hel, _⟩
  · simp [Value.cells] at hcs
    obtain ⟨rfl, rfl, rfl⟩ := hcs
    exact ⟨[], rfl, Nat.le_refl _, Nat.zero_le _, Has.nil_ _ _, by simp⟩
  · simp [Value.cells] at hcs
    obtain ⟨rfl, rfl, rfl⟩ := hcs
    rw [hC] at hel
    have key : ∀ i, i < n → ∃ r : Rl, (r.at_ ≤ 4294967295 ∧ (Lit.int .i64 r.len).wf = true ∧ (Lit.int .i64 r.act).wf = true ∧ (Lit.int .i64 r.nxt).wf = true) ∧ ∀ j, j < 4 → w.cell? (x.add (i * 4 + j)) = (rcell r)[j]? := by
      intro i hi
      have h4 := hel i hi
      rw [List.getElem?_eq_getElem (by omega)] at h4
      obtain ⟨cs, hc4, ht4⟩ := Option.bind_eq_some_iff.1 h4
      obtain ⟨b, l, k, e, rfl, w0, w1, w2, w3⟩ := four_of_trod ht h0 h1 h2 h3 o0 o1 o2 o3 c0 c1 c2 c3 hC ht4
      obtain ⟨hb0, hb1⟩ := bounds_u32 w0
      obtain ⟨B, rfl⟩ := Int.eq_ofNat_of_zero_le hb0
      refine ⟨⟨B, l, k, e⟩, ⟨by show B ≤ _; omega, w1, w2, w3⟩, fun j hj => ?_⟩
      have := cells_at hc4 j hj
      rw [add_of_add] at this
      exact this
    clear hel hf
    have key2 : ∀ i, ∃ r : Rl, i < n → (r.at_ ≤ 4294967295 ∧ (Lit.int .i64 r.len).wf = true ∧ (Lit.int .i64 r.act).wf = true ∧ (Lit.int .i64 r.nxt).wf = true) ∧ ∀ j, j < 4 → w.cell? (x.add (i * 4 + j)) = (rcell r)[j]? := fun i => by
      by_cases hi : i < n
      · obtain ⟨r, hr⟩ := key i hi
        exact ⟨r, fun _ => hr⟩
      · exact ⟨⟨0, 0, 0, 0⟩, fun h => absurd h hi⟩
    obtain ⟨f, hf⟩ := Classical.axiomOfChoice key2
    have hlen2 : ((List.range n).map f).length = n := by simp
    refine ⟨(List.range n).map f, hlen2, hl, hm, fun _ => ⟨x, rfl, fun j u hu => ?_⟩, fun r hr => ?_⟩
    · have hj : j < (rcells ((List.range n).map f)).length := by
        rcases Nat.lt_or_ge j (rcells ((List.range n).map f)).length with h1 | h1
        · exact h1
        · rw [List.getElem?_eq_none h1] at hu; cases hu
      rw [rcells_length, hlen2] at hj
      have e := rcells_at ((List.range n).map f) (j / 4) (j % 4) (by rw [hlen2]; omega) (by omega)
      rw [show j / 4 * 4 + j % 4 = j by omega, hu] at e
      have := (hf (j / 4) (by omega)).2 (j % 4) (by omega)
      rw [show j / 4 * 4 + j % 4 = j by omega] at this
      rw [this, e]
      simp
    · obtain ⟨i, hi, rfl⟩ := List.mem_map.1 hr
      exact (hf i (List.mem_range.1 hi)).1
end Go.Proofs.YtohggpaffmcfoaaDoor
