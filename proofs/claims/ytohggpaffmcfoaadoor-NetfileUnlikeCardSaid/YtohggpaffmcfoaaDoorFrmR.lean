/- How rules that came in are opened for a walk: structs of four numbers, and arrays of two of them. No function of the program is named here. -/
import Derived.Test.YtohggpaffmcfoaaDoorBase
import Derived.Lib.SmallJoins
namespace Go.Proofs.YtohggpaffmcfoaaDoor
open Go.ChangeShapes Go.WideShapes Go.ChangeAt Go.RowKit
set_option linter.unusedVariables false
set_option maxRecDepth 100000
set_option linter.unusedSimpArgs false

/-- the cells of a struct of four numbers -/
theorem four_of_trod {H : Type} {enc : TypeId × Value → H} {P : Program} {w : World} {base : Nat} {sp : Nat → Bool} {hd : Bool} {t : TypeId} {f0 f1 f2 f3 : Field} {k0 k1 k2 k3 : IntKind} {fuel : Nat} {cs : List Value} {x : DataW H × List MemPlace}
    (ht : P.underlying t = some (.struct #[f0, f1, f2, f3])) (h0 : P.underlying f0.type = some (.int k0)) (h1 : P.underlying f1.type = some (.int k1)) (h2 : P.underlying f2.type = some (.int k2)) (h3 : P.underlying f3.type = some (.int k3))
    (o0 : f0.offset = 0) (o1 : f1.offset = 1) (o2 : f2.offset = 2) (o3 : f3.offset = 3) (c0 : P.cellsOf f0.type = 1) (c1 : P.cellsOf f1.type = 1) (c2 : P.cellsOf f2.type = 1) (c3 : P.cellsOf f3.type = 1) (hC : P.cellsOf t = 4)
    (h : DataW.trod enc P w base sp hd fuel t cs = some x) :
    ∃ a b c d : Int, cs = [.int k0 a, .int k1 b, .int k2 c, .int k3 d] ∧ (Lit.int k0 a).wf = true ∧ (Lit.int k1 b).wf = true ∧ (Lit.int k2 c).wf = true ∧ (Lit.int k3 d).wf = true := by
  obtain ⟨y0, y1, y2, y3, n, _, hl, g0, g1, g2, g3⟩ := Joins.trod_struct4 ht h
  rw [hC] at hl
  match cs, hl with
  | [z0, z1, z2, z3], _ =>
    rw [o0, c0] at g0
    rw [o1, c1] at g1
    rw [o2, c2] at g2
    rw [o3, c3] at g3
    obtain ⟨a, e0, _, w0⟩ := DataW.trod_int h0 g0
    obtain ⟨b, e1, _, w1⟩ := DataW.trod_int h1 g1
    obtain ⟨c, e2, _, w2⟩ := DataW.trod_int h2 g2
    obtain ⟨d, e3, _, w3⟩ := DataW.trod_int h3 g3
    simp at e0 e1 e2 e3
    subst e0 e1 e2 e3
    exact ⟨a, b, c, d, rfl, w0, w1, w2, w3⟩
/-- a struct of four numbers, by value -/
theorem rule_of_trod {H : Type} {enc : TypeId × Value → H} {P : Program} {w : World} {r : Reach} {b0 base : Nat} {sp : Nat → Bool} {hd : Bool} {t : TypeId} {f0 f1 f2 f3 : Field} {k0 k1 k2 k3 : IntKind} {v : Value} {d : DataW H} {p : List MemPlace}
    (ht : P.underlying t = some (.struct #[f0, f1, f2, f3])) (h0 : P.underlying f0.type = some (.int k0)) (h1 : P.underlying f1.type = some (.int k1)) (h2 : P.underlying f2.type = some (.int k2)) (h3 : P.underlying f3.type = some (.int k3))
    (o0 : f0.offset = 0) (o1 : f1.offset = 1) (o2 : f2.offset = 2) (o3 : f3.offset = 3) (c0 : P.cellsOf f0.type = 1) (c1 : P.cellsOf f1.type = 1) (c2 : P.cellsOf f2.type = 1) (c3 : P.cellsOf f3.type = 1) (hC : P.cellsOf t = 4)
    (hv : Value.okWide P w r b0 t v) (h : DataW.Trod enc P w base sp hd t v d p) :
    ∃ a b c e : Int, v = .agg #[.int k0 a, .int k1 b, .int k2 c, .int k3 e] ∧ (Lit.int k0 a).wf = true ∧ (Lit.int k1 b).wf = true ∧ (Lit.int k2 c).wf = true ∧ (Lit.int k3 e).wf = true := by
  have hv2 := hv
  simp only [Value.okWide, ht] at hv2
  obtain ⟨cs, rfl, hsz, _⟩ := hv2
  obtain ⟨fuel, hf⟩ := h
  obtain ⟨a, b, c, e, hcs, w0, w1, w2, w3⟩ := four_of_trod ht h0 h1 h2 h3 o0 o1 o2 o3 c0 c1 c2 c3 hC hf
  refine ⟨a, b, c, e, ?_, w0, w1, w2, w3⟩
  simp only [Value.cells] at hcs
  rw [← hcs]
/-- an array of two such structs, by value -/
theorem rules2_of_trod {H : Type} {enc : TypeId × Value → H} {P : Program} {w : World} {r : Reach} {b0 base : Nat} {sp : Nat → Bool} {hd : Bool} {T t : TypeId} {f0 f1 f2 f3 : Field} {k0 k1 k2 k3 : IntKind} {v : Value} {d : DataW H} {p : List MemPlace}
    (hT : P.underlying T = some (.array 2 t)) (hC2 : P.cellsOf T = 8)
    (ht : P.underlying t = some (.struct #[f0, f1, f2, f3])) (h0 : P.underlying f0.type = some (.int k0)) (h1 : P.underlying f1.type = some (.int k1)) (h2 : P.underlying f2.type = some (.int k2)) (h3 : P.underlying f3.type = some (.int k3))
    (o0 : f0.offset = 0) (o1 : f1.offset = 1) (o2 : f2.offset = 2) (o3 : f3.offset = 3) (c0 : P.cellsOf f0.type = 1) (c1 : P.cellsOf f1.type = 1) (c2 : P.cellsOf f2.type = 1) (c3 : P.cellsOf f3.type = 1) (hC : P.cellsOf t = 4)
    (hv : Value.okWide P w r b0 T v) (h : DataW.Trod enc P w base sp hd T v d p) :
    ∃ a b c e a' b' c' e' : Int, v = .agg #[.int k0 a, .int k1 b, .int k2 c, .int k3 e, .int k0 a', .int k1 b', .int k2 c', .int k3 e'] ∧
      ((Lit.int k0 a).wf = true ∧ (Lit.int k1 b).wf = true ∧ (Lit.int k2 c).wf = true ∧ (Lit.int k3 e).wf = true) ∧ (Lit.int k0 a').wf = true ∧ (Lit.int k1 b').wf = true ∧ (Lit.int k2 c').wf = true ∧ (Lit.int k3 e').wf = true := by
  have hv2 := hv
  simp only [Value.okWide, hT] at hv2
  obtain ⟨cs, rfl, hsz, _⟩ := hv2
  obtain ⟨fuel, hf⟩ := h
  obtain ⟨xs, m, _, _, hlen, hxl, hi⟩ := DataW.trod_array hT hf
  rw [hC] at hi
  rw [hC2] at hlen
  simp only [Value.cells] at hlen hi
  have i0 := hi 0 (by omega)
  have i1 := hi 1 (by omega)
  rw [List.getElem?_eq_getElem (by omega)] at i0 i1
  obtain ⟨a, b, c, e, e0, g0⟩ := four_of_trod ht h0 h1 h2 h3 o0 o1 o2 o3 c0 c1 c2 c3 hC i0
  obtain ⟨a', b', c', e', e1, g1⟩ := four_of_trod ht h0 h1 h2 h3 o0 o1 o2 o3 c0 c1 c2 c3 hC i1
  refine ⟨a, b, c, e, a', b', c', e', ?_, g0, g1⟩
  have hl8 : cs.toList.length = 8 := hlen
  have e2 : cs.toList = [.int k0 a, .int k1 b, .int k2 c, .int k3 e, .int k0 a', .int k1 b', .int k2 c', .int k3 e'] := by
    have h4 : cs.toList = cs.toList.take 4 ++ (cs.toList.drop 4).take 4 := by
      rw [← List.take_add, List.take_of_length_le (by omega)]
    rw [h4]
    simp only [Nat.zero_mul, Nat.one_mul, List.drop_zero] at e0 e1
    rw [e0, e1]
    rfl
  rw [← e2]
end Go.Proofs.YtohggpaffmcfoaaDoor
