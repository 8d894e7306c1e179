/-
  No cell of these rows narrows 'for every input' (looked for: loops, veiled, ifaces, maps, wideKeys, modest, calm, conditions, laid).
  DERIVED. THE GIVEN ROWS OF THIS SEAT. 7 by the template 'for every input the law returns true; each argument reads behind the call as it read before'; 0 by the template 'total and deterministic' (their statements: YtddbdikgaapfnaaTotals.lean).
  GIVEN WITH THE SEED: the statements are not yours to turn. If you find one false, say at which input.
  Laid BY PROGRAM, IN A SANDBOX (cutbox-rows.mjs): the forced cells as the released guide's own fill.sh prints them over the translation 757d4027403a3496… (all of the seat's roots in one cut). By AI agents, Wed Nov 11 2026. No macro, syntax, notation, axiom, sorry.
-/
import Derived.Test.YtddbdikgaapfnaaChecked
import GoSem.Claim
import GoSem.ClaimJoined
import GoSem.ClaimMapViews
import Derived.JoinedTies
import Derived.KernelRfl
namespace Go.Proofs.Ytddbdikgaapfnaa
/- THE CELL 'sum', in the pinned program and in every row, IS THE sha256 OF THE DUMP (.gsa) THAT YtddbdikgaapfnaaProg.lean LOADS. Nothing in Lean hashes anything: it is a label: what it is worth is what the hold of that sum in a sandbox is worth. -/
noncomputable def Try.pinned : Pinned := { name := "ytddbdikgaapfnaa", sum := "757d4027403a3496650f059402e7c481e93138db94e4fcd8944248bbccb81bd0", checked := Try.checked }
namespace Rows
def none {H : Type} : Left H := { results := [], args := [] }

/-- 'theseuslaw02.GroupAll': WHATEVER THE INPUT: true; the input reads as it did. -/
def groupAllSpec : ChangeSpec := { name := "groupAll", fn := fun _ => fun
  | [d1, d2] => { results := [.lit (.bool true)], args := [d1, d2] }
  | _ => none }
def groupAllRow : OpenClaim := { program := "ytddbdikgaapfnaa", sum := "757d4027403a3496650f059402e7c481e93138db94e4fcd8944248bbccb81bd0", func := "theseus/theseuslaw02.GroupAll", spec := "groupAll", apart := false }
def GroupAllSaid : Prop := groupAllRow.holds Try.pinned (OpenSpec.ofChange groupAllSpec)

/-- ITS FALSE NEIGHBOUR: 'it returns false'. Refute it at one input. -/
def groupAllWrong : ChangeSpec := { name := "groupAll", fn := fun _ => fun
  | [d1, d2] => { results := [.lit (.bool false)], args := [d1, d2] }
  | _ => none }
def GroupAllWrongFalsely : Prop := groupAllRow.holds Try.pinned (OpenSpec.ofChange groupAllWrong)

/-- 'theseuslaw02.GroupBack': WHATEVER THE INPUT: true; the input reads as it did. -/
def groupBackSpec : ChangeSpec := { name := "groupBack", fn := fun _ => fun
  | [d1, d2] => { results := [.lit (.bool true)], args := [d1, d2] }
  | _ => none }
def groupBackRow : OpenClaim := { program := "ytddbdikgaapfnaa", sum := "757d4027403a3496650f059402e7c481e93138db94e4fcd8944248bbccb81bd0", func := "theseus/theseuslaw02.GroupBack", spec := "groupBack", apart := false }
def GroupBackSaid : Prop := groupBackRow.holds Try.pinned (OpenSpec.ofChange groupBackSpec)

/-- ITS FALSE NEIGHBOUR: 'it returns false'. Refute it at one input. -/
def groupBackWrong : ChangeSpec := { name := "groupBack", fn := fun _ => fun
  | [d1, d2] => { results := [.lit (.bool false)], args := [d1, d2] }
  | _ => none }
def GroupBackWrongFalsely : Prop := groupBackRow.holds Try.pinned (OpenSpec.ofChange groupBackWrong)

/-- 'theseuslaw02.GroupTaken': WHATEVER THE INPUT: true; the input reads as it did. -/
def groupTakenSpec : ChangeSpec := { name := "groupTaken", fn := fun _ => fun
  | [d] => { results := [.lit (.bool true)], args := [d] }
  | _ => none }
def groupTakenRow : OpenClaim := { program := "ytddbdikgaapfnaa", sum := "757d4027403a3496650f059402e7c481e93138db94e4fcd8944248bbccb81bd0", func := "theseus/theseuslaw02.GroupTaken", spec := "groupTaken", apart := false }
def GroupTakenSaid : Prop := groupTakenRow.holds Try.pinned (OpenSpec.ofChange groupTakenSpec)

/-- ITS FALSE NEIGHBOUR: 'it returns false'. Refute it at one input. -/
def groupTakenWrong : ChangeSpec := { name := "groupTaken", fn := fun _ => fun
  | [d] => { results := [.lit (.bool false)], args := [d] }
  | _ => none }
def GroupTakenWrongFalsely : Prop := groupTakenRow.holds Try.pinned (OpenSpec.ofChange groupTakenWrong)

/-- 'theseuslaw02.GroupOrder': WHATEVER THE INPUT: true; the input reads as it did. -/
def groupOrderSpec : ChangeSpec := { name := "groupOrder", fn := fun _ => fun
  | [d1, d2, d3] => { results := [.lit (.bool true)], args := [d1, d2, d3] }
  | _ => none }
def groupOrderRow : OpenClaim := { program := "ytddbdikgaapfnaa", sum := "757d4027403a3496650f059402e7c481e93138db94e4fcd8944248bbccb81bd0", func := "theseus/theseuslaw02.GroupOrder", spec := "groupOrder", apart := false }
def GroupOrderSaid : Prop := groupOrderRow.holds Try.pinned (OpenSpec.ofChange groupOrderSpec)

/-- ITS FALSE NEIGHBOUR: 'it returns false'. Refute it at one input. -/
def groupOrderWrong : ChangeSpec := { name := "groupOrder", fn := fun _ => fun
  | [d1, d2, d3] => { results := [.lit (.bool false)], args := [d1, d2, d3] }
  | _ => none }
def GroupOrderWrongFalsely : Prop := groupOrderRow.holds Try.pinned (OpenSpec.ofChange groupOrderWrong)

/-- 'theseuslaw02.GroupRow': WHATEVER THE INPUT: true; the input reads as it did. -/
def groupRowSpec : ChangeSpec := { name := "groupRow", fn := fun _ => fun
  | [d] => { results := [.lit (.bool true)], args := [d] }
  | _ => none }
def groupRowRow : OpenClaim := { program := "ytddbdikgaapfnaa", sum := "757d4027403a3496650f059402e7c481e93138db94e4fcd8944248bbccb81bd0", func := "theseus/theseuslaw02.GroupRow", spec := "groupRow", apart := false }
def GroupRowSaid : Prop := groupRowRow.holds Try.pinned (OpenSpec.ofChange groupRowSpec)

/-- ITS FALSE NEIGHBOUR: 'it returns false'. Refute it at one input. -/
def groupRowWrong : ChangeSpec := { name := "groupRow", fn := fun _ => fun
  | [d] => { results := [.lit (.bool false)], args := [d] }
  | _ => none }
def GroupRowWrongFalsely : Prop := groupRowRow.holds Try.pinned (OpenSpec.ofChange groupRowWrong)

/-- 'theseuslaw02.GroupBits': WHATEVER THE INPUT: true; the input reads as it did. -/
def groupBitsSpec : ChangeSpec := { name := "groupBits", fn := fun _ => fun
  | [d] => { results := [.lit (.bool true)], args := [d] }
  | _ => none }
def groupBitsRow : OpenClaim := { program := "ytddbdikgaapfnaa", sum := "757d4027403a3496650f059402e7c481e93138db94e4fcd8944248bbccb81bd0", func := "theseus/theseuslaw02.GroupBits", spec := "groupBits", apart := false }
def GroupBitsSaid : Prop := groupBitsRow.holds Try.pinned (OpenSpec.ofChange groupBitsSpec)

/-- ITS FALSE NEIGHBOUR: 'it returns false'. Refute it at one input. -/
def groupBitsWrong : ChangeSpec := { name := "groupBits", fn := fun _ => fun
  | [d] => { results := [.lit (.bool false)], args := [d] }
  | _ => none }
def GroupBitsWrongFalsely : Prop := groupBitsRow.holds Try.pinned (OpenSpec.ofChange groupBitsWrong)

/-- 'theseuslaw02.GroupFree': WHATEVER THE INPUT: true; the input reads as it did. -/
def groupFreeSpec : ChangeSpec := { name := "groupFree", fn := fun _ => fun
  | [d1, d2] => { results := [.lit (.bool true)], args := [d1, d2] }
  | _ => none }
def groupFreeRow : OpenClaim := { program := "ytddbdikgaapfnaa", sum := "757d4027403a3496650f059402e7c481e93138db94e4fcd8944248bbccb81bd0", func := "theseus/theseuslaw02.GroupFree", spec := "groupFree", apart := false }
def GroupFreeSaid : Prop := groupFreeRow.holds Try.pinned (OpenSpec.ofChange groupFreeSpec)

/-- ITS FALSE NEIGHBOUR: 'it returns false'. Refute it at one input. -/
def groupFreeWrong : ChangeSpec := { name := "groupFree", fn := fun _ => fun
  | [d1, d2] => { results := [.lit (.bool false)], args := [d1, d2] }
  | _ => none }
def GroupFreeWrongFalsely : Prop := groupFreeRow.holds Try.pinned (OpenSpec.ofChange groupFreeWrong)

/- THE SECOND FORM. 'bulk': how many values and letters a reading holds, each counted each time it is reached (what is shared counts as often as it is met; a slice's spare places count too). A statement '..UptoSaid' is the law's where the arguments, and the package variables that the reading takes, are together of bulk at most 1048576: NARROWER than '..Said'. Prove '..Said' where nothing that the law and all that it calls make is longer than what came in: it says more and counts as full. Else prove '..UptoSaid'. A law counts once. -/
mutual
def uptoBulk {H : Type} : DataW H → Nat
  | .lit (.string bytes) => bytes.length + 1
  | .lit _ => 1
  | .nil => 1
  | .ptr d => uptoBulk d + 1
  | .slice elems spare => uptoBulkAll elems + uptoBulkAll spare + 1
  | .agg parts => uptoBulkAll parts + 1
  | .iface _ d => uptoBulk d + 1
  | .map entries => uptoBulkEntries entries + 1
  | .held _ => 1
def uptoBulkAll {H : Type} : List (DataW H) → Nat
  | [] => 0
  | d :: r => uptoBulk d + uptoBulkAll r
def uptoBulkEntries {H : Type} : List (Lit × DataW H) → Nat
  | [] => 0
  | x :: r => uptoBulkEntry x + uptoBulkEntries r
def uptoBulkEntry {H : Type} : Lit × DataW H → Nat
  | (.string bytes, d) => bytes.length + uptoBulk d + 1
  | (_, d) => uptoBulk d + 1
 end
def uptoSmall : (H : Type) → List (DataW H) → Bool := fun _ ds => decide (uptoBulkAll ds ≤ 1048576)
def OpenSpec.upto (s : _root_.Go.ChangeSpec) : _root_.Go.OpenSpec := { _root_.Go.OpenSpec.ofChange s with cond := some uptoSmall }

/-- 'theseuslaw02.GroupAll', WHERE WHAT IT READS IS OF BULK AT MOST 1048576: true; the input reads as it did. -/
def groupAllUptoRow : OpenClaim := { program := "ytddbdikgaapfnaa", sum := "757d4027403a3496650f059402e7c481e93138db94e4fcd8944248bbccb81bd0", func := "theseus/theseuslaw02.GroupAll", spec := "groupAll", apart := false, narrowed := true }
def GroupAllUptoSaid : Prop := groupAllUptoRow.holds Try.pinned (OpenSpec.upto groupAllSpec)

/-- 'theseuslaw02.GroupBack', WHERE WHAT IT READS IS OF BULK AT MOST 1048576: true; the input reads as it did. -/
def groupBackUptoRow : OpenClaim := { program := "ytddbdikgaapfnaa", sum := "757d4027403a3496650f059402e7c481e93138db94e4fcd8944248bbccb81bd0", func := "theseus/theseuslaw02.GroupBack", spec := "groupBack", apart := false, narrowed := true }
def GroupBackUptoSaid : Prop := groupBackUptoRow.holds Try.pinned (OpenSpec.upto groupBackSpec)

/-- 'theseuslaw02.GroupTaken', WHERE WHAT IT READS IS OF BULK AT MOST 1048576: true; the input reads as it did. -/
def groupTakenUptoRow : OpenClaim := { program := "ytddbdikgaapfnaa", sum := "757d4027403a3496650f059402e7c481e93138db94e4fcd8944248bbccb81bd0", func := "theseus/theseuslaw02.GroupTaken", spec := "groupTaken", apart := false, narrowed := true }
def GroupTakenUptoSaid : Prop := groupTakenUptoRow.holds Try.pinned (OpenSpec.upto groupTakenSpec)

/-- 'theseuslaw02.GroupOrder', WHERE WHAT IT READS IS OF BULK AT MOST 1048576: true; the input reads as it did. -/
def groupOrderUptoRow : OpenClaim := { program := "ytddbdikgaapfnaa", sum := "757d4027403a3496650f059402e7c481e93138db94e4fcd8944248bbccb81bd0", func := "theseus/theseuslaw02.GroupOrder", spec := "groupOrder", apart := false, narrowed := true }
def GroupOrderUptoSaid : Prop := groupOrderUptoRow.holds Try.pinned (OpenSpec.upto groupOrderSpec)

/-- 'theseuslaw02.GroupRow', WHERE WHAT IT READS IS OF BULK AT MOST 1048576: true; the input reads as it did. -/
def groupRowUptoRow : OpenClaim := { program := "ytddbdikgaapfnaa", sum := "757d4027403a3496650f059402e7c481e93138db94e4fcd8944248bbccb81bd0", func := "theseus/theseuslaw02.GroupRow", spec := "groupRow", apart := false, narrowed := true }
def GroupRowUptoSaid : Prop := groupRowUptoRow.holds Try.pinned (OpenSpec.upto groupRowSpec)

/-- 'theseuslaw02.GroupBits', WHERE WHAT IT READS IS OF BULK AT MOST 1048576: true; the input reads as it did. -/
def groupBitsUptoRow : OpenClaim := { program := "ytddbdikgaapfnaa", sum := "757d4027403a3496650f059402e7c481e93138db94e4fcd8944248bbccb81bd0", func := "theseus/theseuslaw02.GroupBits", spec := "groupBits", apart := false, narrowed := true }
def GroupBitsUptoSaid : Prop := groupBitsUptoRow.holds Try.pinned (OpenSpec.upto groupBitsSpec)

/-- 'theseuslaw02.GroupFree', WHERE WHAT IT READS IS OF BULK AT MOST 1048576: true; the input reads as it did. -/
def groupFreeUptoRow : OpenClaim := { program := "ytddbdikgaapfnaa", sum := "757d4027403a3496650f059402e7c481e93138db94e4fcd8944248bbccb81bd0", func := "theseus/theseuslaw02.GroupFree", spec := "groupFree", apart := false, narrowed := true }
def GroupFreeUptoSaid : Prop := groupFreeUptoRow.holds Try.pinned (OpenSpec.upto groupFreeSpec)

end Rows
end Go.Proofs.Ytddbdikgaapfnaa
