/- Networks that the call makes: outer rows and tables of its own. No function of the program is named here. -/
import Derived.Test.YtohggpaffmcfoaaDoorNetKit
import Derived.Test.YtohggpaffmcfoaaDoorOwnR
import Derived.Test.YtohggpaffmcfoaaDoorRef08t
import Derived.Laws.Tables
namespace Go.Proofs.YtohggpaffmcfoaaDoor
open Go.RowKit
set_option linter.unusedVariables false
set_option maxRecDepth 100000
set_option linter.unusedSimpArgs false

theorem row_info : (Tryd.prog.info? 42).map (fun i => (i.zero, i.size, i.bytes)) = some (some (.slice none 0 0), 1, 24) := by kernel_rfl
theorem Blk.grown {g : Nat} {cs : Array Value} {t : TypeId} {w w' : World} {row : Option Nat} (h : Blk g cs t w) (hg : w.grownBy w' row) (hr : row ≠ some g) : Blk g cs t w' := by
  show _ = _
  rw [hg.block g h.size (fun e => hr e.symm)]
  exact h
/-- an own outer row whose tables lie in memory that stands -/
def RowsOf (w0 : World) (N : Nt) (vs : List Value) : Prop := vs.length = N.length ∧ ∀ i (h1 : i < vs.length) (h2 : i < N.length), IsR w0 vs[i] N[i]
theorem RowsOf.nil (w0 : World) : RowsOf w0 [] [] := ⟨rfl, fun i h => absurd h (by simp)⟩
theorem RowsOf.snoc {w0 : World} {N : Nt} {vs : List Value} (h : RowsOf w0 N vs) {v : Value} {l : List Rl} (hv : IsR w0 v l) : RowsOf w0 (N ++ [l]) (vs ++ [v]) := by
  obtain ⟨h1, h2⟩ := h
  refine ⟨by simp [h1], fun i g1 g2 => ?_⟩
  rcases Nat.lt_or_ge i vs.length with g | g
  · rw [List.getElem_append_left g, List.getElem_append_left (by omega)]
    exact h2 i g (by omega)
  · obtain rfl : i = vs.length := by simp at g1; omega
    rw [List.getElem_append_right (Nat.le_refl _), List.getElem_append_right (by omega)]
    simpa [h1] using hv
theorem RowsOf.isS {w0 w : World} {N : Nt} {vs : List Value} (h : RowsOf w0 N vs) {base n : Nat} {e : TypeId} {x : Value} (hx : w.ownsRow base e 1 x n vs) (hb : Below w0.heap.size w0 w) : IsS w x N := by
  obtain ⟨h1, h2⟩ := h
  have hl := hx.1
  rw [Nat.mul_one] at hl
  obtain ⟨A, c, rfl, g1, g2, g3, g4⟩ := Sl.of_own hx
  exact ⟨A, n, c, vs, rfl, g1, g2, by omega, hl, g4, fun i k1 k2 => (h2 i k1 k2).bel hb⟩
/-- an own outer row of own tables -/
def RowsOwn (base : Nat) (N : Nt) (vs : List Value) (w : World) : Prop := vs.length = N.length ∧ ∀ i (h1 : i < vs.length) (h2 : i < N.length), OwnR 47 base vs[i] N[i] w
theorem RowsOwn.nil (base : Nat) (w : World) : RowsOwn base [] [] w := ⟨rfl, fun i h => absurd h (by simp)⟩
theorem RowsOwn.bel {base : Nat} {N : Nt} {vs : List Value} {w wx : World} (h : RowsOwn base N vs w) (hb : Below w.heap.size w wx) : RowsOwn base N vs wx := ⟨h.1, fun i h1 h2 => (h.2 i h1 h2).bel hb⟩
theorem RowsOwn.snoc {base : Nat} {N : Nt} {vs : List Value} {w : World} (h : RowsOwn base N vs w) {v : Value} {l : List Rl} (hv : OwnR 47 base v l w) : RowsOwn base (N ++ [l]) (vs ++ [v]) w := by
  obtain ⟨h1, h2⟩ := h
  refine ⟨by simp [h1], fun i g1 g2 => ?_⟩
  rcases Nat.lt_or_ge i vs.length with g | g
  · rw [List.getElem_append_left g, List.getElem_append_left (by omega)]
    exact h2 i g (by omega)
  · obtain rfl : i = vs.length := by simp at g1; omega
    rw [List.getElem_append_right (Nat.le_refl _), List.getElem_append_right (by omega)]
    simpa [h1] using hv
theorem RowsOwn.isS {base base' : Nat} {N : Nt} {vs : List Value} {w : World} (h : RowsOwn base N vs w) {n : Nat} {e : TypeId} {x : Value} (hx : w.ownsRow base' e 1 x n vs) : IsS w x N := by
  obtain ⟨h1, h2⟩ := h
  have hl := hx.1
  rw [Nat.mul_one] at hl
  obtain ⟨A, c, rfl, g1, g2, g3, g4⟩ := Sl.of_own hx
  exact ⟨A, n, c, vs, rfl, g1, g2, by omega, hl, g4, fun i k1 k2 => (h2 i k1 k2).isr⟩
/-- a block of slices is none of rules: so what grows the one leaves the other -/
theorem own_apart {w : World} {base base' n : Nat} {x v : Value} {vs : List Value} {m : Nat} {cs : List Value} (hx : w.ownsRow base 42 1 x n vs) (hv : w.ownsRow base' 47 4 v m cs) : v.ownBlock = none ∨ v.ownBlock ≠ x.ownBlock := by
  rcases hv.2 with ⟨rfl, _⟩ | ⟨g, cap, cur, rfl, _, hg, _⟩
  · exact .inl rfl
  · rcases hx.2 with ⟨rfl, _⟩ | ⟨g', cap', cur', rfl, _, hg', _⟩
    · exact .inr (by simp [Value.ownBlock])
    · refine .inr fun e => ?_
      simp only [Value.ownBlock, Option.some.injEq] at e
      subst e
      rw [hg] at hg'
      injection hg' with hg'
      injection hg' with _ h2
      exact absurd h2 (by decide)
theorem RowsOwn.grown {base base' : Nat} {N : Nt} {vs : List Value} {w w' : World} (h : RowsOwn base N vs w) {n : Nat} {x : Value} {us : List Value} (hx : w.ownsRow base' 42 1 x n us) (hg : w.grownBy w' x.ownBlock) : RowsOwn base N vs w' :=
  ⟨h.1, fun i h1 h2 => World.ownsRow.kept (h.2 i h1 h2) hg (own_apart hx (h.2 i h1 h2))⟩
/-- a store into another block than the tables' own -/
theorem OwnR.far {e e' : TypeId} {base : Nat} {v : Value} {l : List Rl} {w : World} (h : OwnR e base v l w) {q : Nat} {cs : Array Value} (hq : Blk q cs e' w) (hne : e ≠ e') (u : Value) : OwnR e base v l (w.setCell ⟨q, 0, none⟩ u) := by
  refine World.ownsRow.kept (row := some q) h ⟨rfl, rfl, rfl, by simp, fun k _ hk => heap_setCell_other w ⟨q, 0, none⟩ k u (fun e => hk (by rw [e]))⟩ ?_
  rcases h.2 with ⟨rfl, _⟩ | ⟨g, cap, cur, rfl, _, hg, _⟩
  · exact .inl rfl
  · refine .inr fun e => ?_
    simp only [Value.ownBlock, Option.some.injEq] at e
    subst e
    have h2 : w.heap[g]? = some (.cells cs e' (0, 0)) := hq
    rw [hg] at h2
    injection h2 with h2
    injection h2 with _ h3
    exact hne h3
theorem RowsOwn.far {base : Nat} {N : Nt} {vs : List Value} {w : World} (h : RowsOwn base N vs w) {q : Nat} {cs : Array Value} {e' : TypeId} (hq : Blk q cs e' w) (hne : 47 ≠ e') (u : Value) : RowsOwn base N vs (w.setCell ⟨q, 0, none⟩ u) :=
  ⟨h.1, fun i h1 h2 => (h.2 i h1 h2).far hq hne u⟩
theorem setRow_grown (w : World) (g : Nat) (cs : Array Value) : w.grownBy (w.setRow g cs) (some g) := ⟨rfl, rfl, rfl, by simp [World.setRow], fun k _ hk => setRow_other w g k cs (fun e => hk (by rw [e]))⟩
theorem own_kept {w w' : World} {base e size n q : Nat} {v : Value} {xs : List Value} (h : w.ownsRow base e size v n xs) (hg : w.grownBy w' (some q)) (hq : q < base) : w'.ownsRow base e size v n xs :=
  World.ownsRow.kept h hg (.inr fun e => by have := (h.lt q e).1; omega)
theorem RowsOwn.kept {base q : Nat} {N : Nt} {vs : List Value} {w w' : World} (h : RowsOwn base N vs w) (hg : w.grownBy w' (some q)) (hq : q < base) : RowsOwn base N vs w' := ⟨h.1, fun i h1 h2 => own_kept (h.2 i h1 h2) hg hq⟩
/-- a network of the call's own, by value -/
def OwnN (base : Nat) (v : Value) (N : Nt) (w : World) : Prop := ∃ x vs, v = .agg #[x] ∧ w.ownsRow base 42 1 x N.length vs ∧ RowsOwn base N vs w
theorem OwnN.isN {base : Nat} {v : Value} {N : Nt} {w : World} (h : OwnN base v N w) : IsN w v N := by
  obtain ⟨x, vs, rfl, h1, h2⟩ := h
  exact (h2.isS h1).mk
theorem OwnN.bel {base : Nat} {v : Value} {N : Nt} {w wx : World} (h : OwnN base v N w) (hb : Below w.heap.size w wx) : OwnN base v N wx := by
  obtain ⟨x, vs, rfl, h1, h2⟩ := h
  exact ⟨x, vs, rfl, own_bel h1 hb, h2.bel hb⟩
theorem OwnN.kept {base q : Nat} {v : Value} {N : Nt} {w w' : World} (h : OwnN base v N w) (hg : w.grownBy w' (some q)) (hq : q < base) : OwnN base v N w' := by
  obtain ⟨x, vs, rfl, h1, h2⟩ := h
  exact ⟨x, vs, rfl, own_kept h1 hg hq, h2.kept hg hq⟩
theorem RowsOwn.base {base base' : Nat} {N : Nt} {vs : List Value} {w : World} (h : RowsOwn base N vs w) (hb : base' ≤ base) : RowsOwn base' N vs w := ⟨h.1, fun i h1 h2 => own_base (h.2 i h1 h2) hb⟩
/-- such as few, and Fit, make of a network -/
def fewN (N : Nt) : Nt := (N.take 8).map (List.take 20)
def manyN (N : Nt) : Nat := max 1 (min N.length 8)
def fitNt (N : Nt) : Nt := (List.range (manyN N)).map fun i => fitT (manyN N : Nat) (N.getD i [])
theorem fitNt_len (N : Nt) : (fitNt N).length = manyN N := by simp [fitNt]
theorem manyN_bd (N : Nt) : 1 ≤ manyN N ∧ manyN N ≤ 8 := by unfold manyN; omega
theorem fitNt_at (N : Nt) (i : Nat) (hi : i < (fitNt N).length) : (fitNt N)[i] = fitT (manyN N : Nat) (N.getD i []) := by simp [fitNt]
theorem fitNt_tbl {N : Nt} : ∀ l ∈ fitNt N, Tbl l (manyN N : Nat) := fun l hl => by
  obtain ⟨i, _, rfl⟩ := List.mem_map.1 hl
  have := manyN_bd N
  exact fitT_tbl _ _ (by omega)
theorem fitNt_ok {N : Nt} : ∀ l ∈ fitNt N, OkT l (fitNt N).length := fun l hl => by rw [fitNt_len]; exact (fitNt_tbl l hl).ok
theorem fitNt_le {N : Nt} : ∀ l ∈ fitNt N, l.length ≤ 20 := fun l hl => by
  obtain ⟨i, _, rfl⟩ := List.mem_map.1 hl
  exact fitT_le _ _
theorem fewN_le {N : Nt} : ∀ l ∈ fewN N, l.length ≤ 20 := fun l hl => by
  obtain ⟨x, _, rfl⟩ := List.mem_map.1 hl
  exact List.length_take_le _ _
theorem fewN_len (N : Nt) : (fewN N).length ≤ 8 := by simp [fewN]; omega
theorem fewN_wf {N : Nt} (h : WfN N) : WfN (fewN N) := fun l hl r hr => by
  obtain ⟨x, hx, rfl⟩ := List.mem_map.1 hl
  exact h x (List.mem_of_mem_take hx) r (List.mem_of_mem_take hr)
theorem getD_in {N : Nt} {i : Nat} (h : i < N.length) : N.getD i [] = N[i] := by simp [List.getD, h]
theorem getD_out {N : Nt} {i : Nat} (h : N.length ≤ i) : N.getD i [] = [] := by simp [List.getD, List.getElem?_eq_none h]
theorem fitNt_wf {N : Nt} (h : WfN N) : WfN (fitNt N) := fun l hl => by
  obtain ⟨i, _, rfl⟩ := List.mem_map.1 hl
  refine Tbl.at_ fun r hr => ?_
  rcases Nat.lt_or_ge i N.length with g | g
  · rw [getD_in g] at hr
    exact h _ (List.getElem_mem g) r hr
  · rw [getD_out g] at hr
    cases hr
theorem few_succ (N : Nt) (k : Nat) (hk : k < N.length) : (N.take (k + 1)).map (List.take 20) = (N.take k).map (List.take 20) ++ [N[k].take 20] := by
  rw [List.take_succ_eq_append_getElem hk, List.map_append]
  rfl
theorem range_succ_map {α : Type} (f : Nat → α) (k : Nat) : (List.range (k + 1)).map f = (List.range k).map f ++ [f k] := by
  rw [List.range_succ, List.map_append]
  rfl
end Go.Proofs.YtohggpaffmcfoaaDoor
