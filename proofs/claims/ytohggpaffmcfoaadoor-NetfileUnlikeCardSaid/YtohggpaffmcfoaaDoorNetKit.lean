/- Networks in memory: slices of slices of rules; how one that came in is opened for a walk. No function of the program is named here. -/
import Derived.Test.YtohggpaffmcfoaaDoorFrmT8
import Derived.Test.YtohggpaffmcfoaaDoorMath
import Derived.ChangeSame
namespace Go.Proofs.YtohggpaffmcfoaaDoor
open Go.ChangeShapes Go.WideShapes Go.ChangeAt Go.RowKit
set_option linter.unusedVariables false
set_option maxRecDepth 100000
set_option linter.unusedSimpArgs false

/-- a slice value that reads as tables -/
def IsS (w : World) (v : Value) (N : Nt) : Prop := ∃ (A : Option Addr) (n c : Nat) (vs : List Value), v = .slice A n c ∧ n ≤ c ∧ c ≤ maxLen ∧ N.length = n ∧ vs.length = n ∧ Has w A vs ∧ ∀ i (h1 : i < vs.length) (h2 : i < N.length), IsR w vs[i] N[i]
/-- a network by value -/
def IsN (w : World) (v : Value) (N : Nt) : Prop := ∃ s, v = .agg #[s] ∧ IsS w s N
theorem IsS.bel {w w' : World} {v : Value} {N : Nt} (h : IsS w v N) (hb : Below w.heap.size w w') : IsS w' v N := by
  obtain ⟨A, n, c, vs, rfl, h1, h2, h3, h4, h5, h6⟩ := h
  exact ⟨A, n, c, vs, rfl, h1, h2, h3, h4, h5.bel hb, fun i g1 g2 => (h6 i g1 g2).bel hb⟩
theorem IsN.bel {w w' : World} {v : Value} {N : Nt} (h : IsN w v N) (hb : Below w.heap.size w w') : IsN w' v N := by
  obtain ⟨s, rfl, h1⟩ := h
  exact ⟨s, rfl, h1.bel hb⟩
theorem IsN.slice {w : World} {v : Value} {N : Nt} (h : IsN w v N) : ∃ A c, v = .agg #[.slice A N.length c] ∧ N.length ≤ c ∧ c ≤ maxLen ∧ IsS w (.slice A N.length c) N := by
  obtain ⟨s, rfl, A, n, c, vs, rfl, h1, h2, rfl, h4⟩ := h
  exact ⟨A, c, rfl, h1, h2, A, _, c, vs, rfl, h1, h2, rfl, h4⟩
theorem IsS.mk {w : World} {v : Value} {N : Nt} (h : IsS w v N) : IsN w (.agg #[v]) N := ⟨v, rfl, h⟩
/-- the slice of one node -/
theorem IsS.at_ {w : World} {A : Option Addr} {n c : Nat} {N : Nt} (h : IsS w (.slice A n c) N) (i : Nat) (hi : i < N.length) : ∃ (ad : Addr) (B : Option Addr) (m : Nat), A = some ad ∧ w.cell? (ad.add i) = some (.slice B N[i].length m) ∧ N[i].length ≤ m ∧ m ≤ maxLen ∧ IsR w (.slice B N[i].length m) N[i] := by
  obtain ⟨A', n', c', vs, e, h1, h2, h3, h4, h5, h6⟩ := h
  injection e with e1 e2 e3
  subst e1
  have hv : i < vs.length := by omega
  obtain ⟨ad, rfl, hc⟩ := h5.at_ hv
  have hr := h6 i hv hi
  obtain ⟨B, k, m, g, g1, g2, g3, g4⟩ := hr
  rw [g] at hc
  refine ⟨ad, B, m, rfl, by rw [hc, g3], by omega, g2, B, _, m, rfl, by omega, g2, rfl, g4⟩
theorem cell_block {w : World} {p : Addr} {v : Value} (h : w.cell? p = some v) : p.block < w.heap.size := by
  unfold World.cell? at h
  rcases Nat.lt_or_ge p.block w.heap.size with h3 | h3
  · exact h3
  · rw [Array.getElem?_eq_none h3] at h; simp at h
/-- the same, whatever is made since -/
theorem IsS.all {w : World} {A : Option Addr} {n c : Nat} {N : Nt} (h : IsS w (.slice A n c) N) (i : Nat) (hi : i < N.length) : ∃ (ad : Addr) (B : Option Addr) (m : Nat), A = some ad ∧ N[i].length ≤ m ∧ m ≤ maxLen ∧ IsR w (.slice B N[i].length m) N[i] ∧ ∀ wx, Below w.heap.size w wx → wx.cell? (ad.add i) = some (.slice B N[i].length m) := by
  obtain ⟨ad, B, m, rfl, hc, h1, h2, h3⟩ := h.at_ i hi
  exact ⟨ad, B, m, rfl, h1, h2, h3, fun wx hx => (hx.cell (cell_block hc)).trans hc⟩
/-- the addresses of all rules are addresses -/
def WfN (N : Nt) : Prop := ∀ l ∈ N, ∀ r ∈ l, r.at_ ≤ 4294967295
theorem WfN.at_ {N : Nt} (h : WfN N) {i : Nat} (hi : i < N.length) : ∀ r ∈ N[i], r.at_ ≤ 4294967295 := h N[i] (List.getElem_mem hi)
/-- a network that came in -/
structure InNet (w : World) (a : Option Addr) (n c : Nat) (N : Nt) : Prop where
  is : IsS w (.slice a n c) N
  wf : WfN N
theorem InNet.isn {w : World} {a : Option Addr} {n c : Nat} {N : Nt} (h : InNet w a n c N) : IsN w (.agg #[.slice a n c]) N := h.is.mk
theorem InNet.of_trod {H : Type} {enc : TypeId × Value → H} {P : Program} {w : World} {r : Reach} {b0 base : Nat} {sp : Nat → Bool} {hd : Bool} {S T t : TypeId} {f f0 f1 f2 f3 : Field} {v : Value} {d : DataW H} {p : List MemPlace}
    (hS : P.underlying S = some (.struct #[f])) (hf : P.underlying f.type = some (.slice T)) (of : f.offset = 0) (cf : P.cellsOf f.type = 1) (cS : P.cellsOf S = 1)
    (hT : P.underlying T = some (.slice t)) (cT : P.cellsOf T = 1)
    (ht : P.underlying t = some (.struct #[f0, f1, f2, f3])) (h0 : P.underlying f0.type = some (.int .u32)) (h1 : P.underlying f1.type = some (.int .i64)) (h2 : P.underlying f2.type = some (.int .i64)) (h3 : P.underlying f3.type = some (.int .i64))
    (o0 : f0.offset = 0) (o1 : f1.offset = 1) (o2 : f2.offset = 2) (o3 : f3.offset = 3) (c0 : P.cellsOf f0.type = 1) (c1 : P.cellsOf f1.type = 1) (c2 : P.cellsOf f2.type = 1) (c3 : P.cellsOf f3.type = 1) (hC : P.cellsOf t = 4)
    (hv : Value.okWide P w r b0 S v) (h : DataW.Trod enc P w base sp hd S v d p) : ∃ a n c N, v = .agg #[.slice a n c] ∧ InNet w a n c N := by
  have hv2 := hv
  simp only [Value.okWide, hS] at hv2
  obtain ⟨cs, rfl, hsz, _⟩ := hv2
  obtain ⟨fuel, hF⟩ := h
  obtain ⟨y0, n0, _, hl, g0⟩ := trod_struct1 hS hF
  rw [cS] at hl
  simp only [Value.cells] at hl g0
  obtain ⟨z, hz⟩ : ∃ z, cs.toList = [z] := by
    match cs.toList, hl with
    | [z], _ => exact ⟨z, rfl⟩
  rw [hz, of, cf] at g0
  have hcs : cs = #[z] := by rw [← Array.toArray_toList (xs := cs), hz]
  subst hcs
  simp only [List.drop_zero, List.take_succ_cons, List.take_zero] at g0
  have g1 : DataW.trod enc P w base sp hd n0 f.type [z] = some y0 := by simpa using g0
  rcases DataW.trod_slice hf g1 with ⟨hcs, _⟩ | ⟨x, len, cap, elems, rest, m, _, hcs, _, _, hl2, hm, hlen, hel, _⟩
  · simp at hcs
    subst hcs
    exact ⟨none, 0, 0, [], rfl, ⟨none, 0, 0, [], rfl, Nat.le_refl _, Nat.zero_le _, rfl, rfl, Has.nil_ _ _, fun i g => absurd g (by simp)⟩, fun l hl => by cases hl⟩
  · simp at hcs
    subst hcs
    rw [cT] at hel
    have key : ∀ i, ∃ q : Value × List Rl, i < len → w.cell? (x.add i) = some q.1 ∧ IsR w q.1 q.2 ∧ ∀ r ∈ q.2, r.at_ ≤ 4294967295 := fun i => by
      by_cases hi : i < len
      · have h4 := hel i hi
        rw [List.getElem?_eq_getElem (by omega)] at h4
        obtain ⟨us, hc4, ht4⟩ := Option.bind_eq_some_iff.1 h4
        have hcell := cells_at hc4 0 (by omega)
        rw [addr_zero, Nat.mul_one] at hcell
        have hu : ∃ A k c, us = [.slice A k c] := by
          rcases DataW.trod_slice hT ht4 with ⟨e, _⟩ | ⟨y, l2, c2, _, _, _, _, e, _⟩
          · exact ⟨_, _, _, e⟩
          · exact ⟨_, _, _, e⟩
        obtain ⟨A, k, c, rfl⟩ := hu
        obtain ⟨l, hl⟩ := InR.of_trod (d := elems[i].1) (p := elems[i].2) hT ht h0 h1 h2 h3 o0 o1 o2 o3 c0 c1 c2 c3 hC (show DataW.Trod enc P w base sp hd T (.slice A k c) _ _ from ⟨m, ht4⟩)
        exact ⟨(.slice A k c, l), fun _ => ⟨hcell, hl.isr, fun r hr => (hl.wf r hr).1⟩⟩
      · exact ⟨(.slice none 0 0, []), fun g => absurd g hi⟩
    obtain ⟨F, hF⟩ := Classical.axiomOfChoice key
    refine ⟨some x, len, cap, (List.range len).map (fun i => (F i).2), rfl, ⟨some x, len, cap, (List.range len).map (fun i => (F i).1), rfl, hl2, hm, by simp, by simp, fun _ => ⟨x, rfl, fun j u hu => ?_⟩, fun i g1 g2 => ?_⟩, fun l hl r hr => ?_⟩
    · have hj : j < len := by
        rcases Nat.lt_or_ge j len with g | g
        · exact g
        · rw [List.getElem?_eq_none (by simpa using g)] at hu; cases hu
      rw [(hF j hj).1, ← hu]
      simp [hj]
    · have hi : i < len := by simpa using g1
      have := (hF i hi).2.1
      simpa using this
    · obtain ⟨i, hi, rfl⟩ := List.mem_map.1 hl
      exact (hF i (List.mem_range.1 hi)).2.2 r hr
end Go.Proofs.YtohggpaffmcfoaaDoor
