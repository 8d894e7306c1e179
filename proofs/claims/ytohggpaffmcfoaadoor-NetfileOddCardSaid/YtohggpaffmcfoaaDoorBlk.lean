/- Blocks of the call's own that stand as they were made, and rows of bytes of its own; stores into them. No function of the program is named here. -/
import Derived.Test.YtohggpaffmcfoaaDoorBase
import Derived.Lib.SmallJoins
import Derived.Laws.Rows
namespace Go.Proofs.YtohggpaffmcfoaaDoor
open Go.RowKit
set_option linter.unusedVariables false
set_option maxRecDepth 100000
set_option linter.unusedSimpArgs false

def Blk (g : Nat) (cs : Array Value) (t : TypeId) (w : World) : Prop := w.heap[g]? = some (.cells cs t (0, 0))
section
variable {g : Nat} {cs cs' : Array Value} {t : TypeId} {w wx : World}
theorem Blk.size (h : Blk g cs t w) : g < w.heap.size := (Array.getElem?_eq_some_iff.1 h).1
theorem Blk.bel (h : Blk g cs t w) (hb : Below w.heap.size w wx) : Blk g cs t wx := by
  show _ = _
  rw [hb.block g h.size]
  exact h
theorem Blk.new (w : World) (cs : Array Value) (t : TypeId) : Blk w.heap.size cs t (w.alloc (.cells cs t)) := Go.heap_alloc_new w _
theorem Blk.cell (h : Blk g cs t w) (j : Nat) {v : Value} (he : cs[j]? = some v) : w.cell? ⟨g, j, none⟩ = some v := by rw [Joins.cell_of_block h, he]
theorem Blk.froz (h : Blk g cs t w) (j : Nat) : w.frozen? ⟨g, j, none⟩ = false := Joins.unfrozen_of_block h j
theorem Blk.set (h : Blk g cs t w) (j : Nat) (v : Value) (he : cs.setIfInBounds j v = cs') : Blk g cs' t (w.setCell ⟨g, j, none⟩ v) := by
  show _ = _
  rw [Joins.block_setCell h, he]
theorem Blk.far (h : Blk g cs t w) (q j : Nat) (v : Value) (hn : g ≠ q) : Blk g cs t (w.setCell ⟨q, j, none⟩ v) := by
  show _ = _
  rw [Below.heap_setCell w ⟨q, j, none⟩ v g hn]
  exact h
end
/-- bytes in a row from base on -/
def OwnB (e : TypeId) (base : Nat) (v : Value) (bs : List UInt8) (w : World) : Prop := w.ownsRow base e 1 v bs.length (vals bs)
section
variable {e : TypeId} {base base' : Nat} {v : Value} {bs : List UInt8} {w wx : World}
theorem OwnB.mk {n : Nat} (h : w.ownsRow base e 1 v n (vals bs)) (hb : base' ≤ base) : OwnB e base' v bs w := by
  have hl := h.1
  rw [vals_length, Nat.mul_one] at hl
  have h2 := own_base h hb
  rw [← hl] at h2
  exact h2
theorem OwnB.bel (h : OwnB e base v bs w) (hb : Below w.heap.size w wx) : OwnB e base v bs wx := own_bel h hb
theorem OwnB.isb (h : OwnB e base v bs w) : IsB w v bs := IsB.of_own h
theorem OwnB.far (h : OwnB e base v bs w) (q j : Nat) (u : Value) (hq : q < base) : OwnB e base v bs (w.setCell ⟨q, j, none⟩ u) := ownsRow_setCell_below h hq u
theorem OwnB.drewN (h : OwnB e base v bs w) (k : Nat) : OwnB e base v bs (w.drewN k) := h
end
end Go.Proofs.YtohggpaffmcfoaaDoor
