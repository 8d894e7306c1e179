/-
  NARROWER THAN 'FOR EVERY INPUT', by the rows' own cells (each row's printed sentence says how): CrcAll: laid · CrcParts: laid · CrcTurns: laid · CrcMixed: laid · CrcSteps: laid.
  DERIVED. THE GIVEN ROWS OF THIS SEAT. 5 by the template 'for every input the law returns true; each argument reads behind the call as it read before'; 0 by the template 'total and deterministic' (their statements: YtknfaomgplodkaaDoorTotals.lean).
  GIVEN WITH THE SEED: the statements are not yours to turn. If you find one false, say at which input.
  Laid BY PROGRAM, IN A SANDBOX (cutbox-rows.mjs): the forced cells as the released guide's own fill.sh prints them over the translation e1388fa9876ce783… (all of the seat's roots in one cut). By AI agents, Wed Nov 11 2026. No macro, syntax, notation, axiom, sorry.
-/
import Derived.Test.YtknfaomgplodkaaDoorChecked
import GoSem.Claim
import GoSem.ClaimJoined
import GoSem.ClaimMapViews
import Derived.JoinedTies
import Derived.KernelRfl
namespace Go.Proofs.YtknfaomgplodkaaDoor
/- THE CELL 'sum', in the pinned program and in every row, IS THE sha256 OF THE DUMP (.gsa) THAT YtknfaomgplodkaaDoorProg.lean LOADS. Nothing in Lean hashes anything: it is a label: what it is worth is what the hold of that sum in a sandbox is worth. -/
noncomputable def Tryd.pinned : Pinned := { name := "ytknfaomgplodkaadoor", sum := "e1388fa9876ce78336ec68e17971caa49e60b9abdfe8cd59b1b27b31a0e8b8b2", checked := Tryd.checked }
namespace Rows
def none {H : Type} : Left H := { results := [], args := [] }

/- WHAT THE LISTED PACKAGE-LEVEL VARIABLES READ AS WHEN THE CALL BEGINS. Each datum BY PROGRAM (the guide's laid-datum.mjs) off the statement by which the dump's own 'gosem.cut.vars' lays the variable. In a bare row this is a premise. The card (YtknfaomgplodkaaDoorCards.lean) ties it to the program's text. -/
def laid_theseus_crc_shifted {H : Type} : DataW H := .agg [.lit (.int .u32 0), .lit (.int .u32 274646895), .lit (.int .u32 549293790), .lit (.int .u32 820201905), .lit (.int .u32 1098587580), .lit (.int .u32 1361435347), .lit (.int .u32 1640403810), .lit (.int .u32 1905808397), .lit (.int .u32 2197175160), .lit (.int .u32 2460548119), .lit (.int .u32 2722870694), .lit (.int .u32 2987750089), .lit (.int .u32 3280807620), .lit (.int .u32 3553878443), .lit (.int .u32 3811616794), .lit (.int .u32 4084100981)]

/-- 'theseuslaw03.CrcAll': WHATEVER THE INPUT: true; the input reads as it did. -/
def crcAllSpec : ChangeSpec := { name := "crcAll", fn := fun _ => fun
  | [d1, d2, d3] => { results := [.lit (.bool true)], args := [d1, d2, d3] }
  | _ => none }
def crcAllRow : OpenClaim := { program := "ytknfaomgplodkaadoor", sum := "e1388fa9876ce78336ec68e17971caa49e60b9abdfe8cd59b1b27b31a0e8b8b2", func := "theseus/theseuslaw03.CrcAll", spec := "crcAll", named := ["theseus/crc.shifted"], apart := false, laid := [("theseus/crc.shifted", laid_theseus_crc_shifted)] }
def CrcAllSaid : Prop := crcAllRow.holds Tryd.pinned (OpenSpec.ofChange crcAllSpec)

/-- ITS FALSE NEIGHBOUR: 'it returns false'. Refute it at one input. -/
def crcAllWrong : ChangeSpec := { name := "crcAll", fn := fun _ => fun
  | [d1, d2, d3] => { results := [.lit (.bool false)], args := [d1, d2, d3] }
  | _ => none }
def CrcAllWrongFalsely : Prop := crcAllRow.holds Tryd.pinned (OpenSpec.ofChange crcAllWrong)

/-- 'theseuslaw03.CrcParts': WHATEVER THE INPUT: true; the input reads as it did. -/
def crcPartsSpec : ChangeSpec := { name := "crcParts", fn := fun _ => fun
  | [d1, d2] => { results := [.lit (.bool true)], args := [d1, d2] }
  | _ => none }
def crcPartsRow : OpenClaim := { program := "ytknfaomgplodkaadoor", sum := "e1388fa9876ce78336ec68e17971caa49e60b9abdfe8cd59b1b27b31a0e8b8b2", func := "theseus/theseuslaw03.CrcParts", spec := "crcParts", named := ["theseus/crc.shifted"], apart := false, laid := [("theseus/crc.shifted", laid_theseus_crc_shifted)] }
def CrcPartsSaid : Prop := crcPartsRow.holds Tryd.pinned (OpenSpec.ofChange crcPartsSpec)

/-- ITS FALSE NEIGHBOUR: 'it returns false'. Refute it at one input. -/
def crcPartsWrong : ChangeSpec := { name := "crcParts", fn := fun _ => fun
  | [d1, d2] => { results := [.lit (.bool false)], args := [d1, d2] }
  | _ => none }
def CrcPartsWrongFalsely : Prop := crcPartsRow.holds Tryd.pinned (OpenSpec.ofChange crcPartsWrong)

/-- 'theseuslaw03.CrcTurns': WHATEVER THE INPUT: true; the input reads as it did. -/
def crcTurnsSpec : ChangeSpec := { name := "crcTurns", fn := fun _ => fun
  | [d1, d2, d3] => { results := [.lit (.bool true)], args := [d1, d2, d3] }
  | _ => none }
def crcTurnsRow : OpenClaim := { program := "ytknfaomgplodkaadoor", sum := "e1388fa9876ce78336ec68e17971caa49e60b9abdfe8cd59b1b27b31a0e8b8b2", func := "theseus/theseuslaw03.CrcTurns", spec := "crcTurns", named := ["theseus/crc.shifted"], apart := false, laid := [("theseus/crc.shifted", laid_theseus_crc_shifted)] }
def CrcTurnsSaid : Prop := crcTurnsRow.holds Tryd.pinned (OpenSpec.ofChange crcTurnsSpec)

/-- ITS FALSE NEIGHBOUR: 'it returns false'. Refute it at one input. -/
def crcTurnsWrong : ChangeSpec := { name := "crcTurns", fn := fun _ => fun
  | [d1, d2, d3] => { results := [.lit (.bool false)], args := [d1, d2, d3] }
  | _ => none }
def CrcTurnsWrongFalsely : Prop := crcTurnsRow.holds Tryd.pinned (OpenSpec.ofChange crcTurnsWrong)

/-- 'theseuslaw03.CrcMixed': WHATEVER THE INPUT: true; the input reads as it did. -/
def crcMixedSpec : ChangeSpec := { name := "crcMixed", fn := fun _ => fun
  | [d1, d2] => { results := [.lit (.bool true)], args := [d1, d2] }
  | _ => none }
def crcMixedRow : OpenClaim := { program := "ytknfaomgplodkaadoor", sum := "e1388fa9876ce78336ec68e17971caa49e60b9abdfe8cd59b1b27b31a0e8b8b2", func := "theseus/theseuslaw03.CrcMixed", spec := "crcMixed", named := ["theseus/crc.shifted"], apart := false, laid := [("theseus/crc.shifted", laid_theseus_crc_shifted)] }
def CrcMixedSaid : Prop := crcMixedRow.holds Tryd.pinned (OpenSpec.ofChange crcMixedSpec)

/-- ITS FALSE NEIGHBOUR: 'it returns false'. Refute it at one input. -/
def crcMixedWrong : ChangeSpec := { name := "crcMixed", fn := fun _ => fun
  | [d1, d2] => { results := [.lit (.bool false)], args := [d1, d2] }
  | _ => none }
def CrcMixedWrongFalsely : Prop := crcMixedRow.holds Tryd.pinned (OpenSpec.ofChange crcMixedWrong)

/-- 'theseuslaw03.CrcSteps': WHATEVER THE INPUT: true; the input reads as it did. -/
def crcStepsSpec : ChangeSpec := { name := "crcSteps", fn := fun _ => fun
  | [d1, d2] => { results := [.lit (.bool true)], args := [d1, d2] }
  | _ => none }
def crcStepsRow : OpenClaim := { program := "ytknfaomgplodkaadoor", sum := "e1388fa9876ce78336ec68e17971caa49e60b9abdfe8cd59b1b27b31a0e8b8b2", func := "theseus/theseuslaw03.CrcSteps", spec := "crcSteps", named := ["theseus/crc.shifted"], apart := false, laid := [("theseus/crc.shifted", laid_theseus_crc_shifted)] }
def CrcStepsSaid : Prop := crcStepsRow.holds Tryd.pinned (OpenSpec.ofChange crcStepsSpec)

/-- ITS FALSE NEIGHBOUR: 'it returns false'. Refute it at one input. -/
def crcStepsWrong : ChangeSpec := { name := "crcSteps", fn := fun _ => fun
  | [d1, d2] => { results := [.lit (.bool false)], args := [d1, d2] }
  | _ => none }
def CrcStepsWrongFalsely : Prop := crcStepsRow.holds Tryd.pinned (OpenSpec.ofChange crcStepsWrong)

/- THE SECOND FORM. 'bulk': how many values and letters a reading holds, each counted each time it is reached (what is shared counts as often as it is met; a slice's spare places count too). A statement '..UptoSaid' is the law's where the arguments, and the package variables that the reading takes, are together of bulk at most 1048576: NARROWER than '..Said'. Prove '..Said' where nothing that the law and all that it calls make is longer than what came in: it says more and counts as full. Else prove '..UptoSaid'. A law counts once. -/
mutual
def uptoBulk {H : Type} : DataW H → Nat
  | .lit (.string bytes) => bytes.length + 1
  | .lit _ => 1
  | .nil => 1
  | .ptr d => uptoBulk d + 1
  | .slice elems spare => uptoBulkAll elems + uptoBulkAll spare + 1
  | .agg parts => uptoBulkAll parts + 1
  | .iface _ d => uptoBulk d + 1
  | .map entries => uptoBulkEntries entries + 1
  | .held _ => 1
def uptoBulkAll {H : Type} : List (DataW H) → Nat
  | [] => 0
  | d :: r => uptoBulk d + uptoBulkAll r
def uptoBulkEntries {H : Type} : List (Lit × DataW H) → Nat
  | [] => 0
  | x :: r => uptoBulkEntry x + uptoBulkEntries r
def uptoBulkEntry {H : Type} : Lit × DataW H → Nat
  | (.string bytes, d) => bytes.length + uptoBulk d + 1
  | (_, d) => uptoBulk d + 1
 end
def uptoSmall : (H : Type) → List (DataW H) → Bool := fun _ ds => decide (uptoBulkAll ds ≤ 1048576)
def OpenSpec.upto (s : _root_.Go.ChangeSpec) : _root_.Go.OpenSpec := { _root_.Go.OpenSpec.ofChange s with cond := some uptoSmall }

/-- 'theseuslaw03.CrcAll', WHERE WHAT IT READS IS OF BULK AT MOST 1048576: true; the input reads as it did. -/
def crcAllUptoRow : OpenClaim := { program := "ytknfaomgplodkaadoor", sum := "e1388fa9876ce78336ec68e17971caa49e60b9abdfe8cd59b1b27b31a0e8b8b2", func := "theseus/theseuslaw03.CrcAll", spec := "crcAll", named := ["theseus/crc.shifted"], apart := false, laid := [("theseus/crc.shifted", laid_theseus_crc_shifted)], narrowed := true }
def CrcAllUptoSaid : Prop := crcAllUptoRow.holds Tryd.pinned (OpenSpec.upto crcAllSpec)

/-- 'theseuslaw03.CrcParts', WHERE WHAT IT READS IS OF BULK AT MOST 1048576: true; the input reads as it did. -/
def crcPartsUptoRow : OpenClaim := { program := "ytknfaomgplodkaadoor", sum := "e1388fa9876ce78336ec68e17971caa49e60b9abdfe8cd59b1b27b31a0e8b8b2", func := "theseus/theseuslaw03.CrcParts", spec := "crcParts", named := ["theseus/crc.shifted"], apart := false, laid := [("theseus/crc.shifted", laid_theseus_crc_shifted)], narrowed := true }
def CrcPartsUptoSaid : Prop := crcPartsUptoRow.holds Tryd.pinned (OpenSpec.upto crcPartsSpec)

/-- 'theseuslaw03.CrcTurns', WHERE WHAT IT READS IS OF BULK AT MOST 1048576: true; the input reads as it did. -/
def crcTurnsUptoRow : OpenClaim := { program := "ytknfaomgplodkaadoor", sum := "e1388fa9876ce78336ec68e17971caa49e60b9abdfe8cd59b1b27b31a0e8b8b2", func := "theseus/theseuslaw03.CrcTurns", spec := "crcTurns", named := ["theseus/crc.shifted"], apart := false, laid := [("theseus/crc.shifted", laid_theseus_crc_shifted)], narrowed := true }
def CrcTurnsUptoSaid : Prop := crcTurnsUptoRow.holds Tryd.pinned (OpenSpec.upto crcTurnsSpec)

/-- 'theseuslaw03.CrcMixed', WHERE WHAT IT READS IS OF BULK AT MOST 1048576: true; the input reads as it did. -/
def crcMixedUptoRow : OpenClaim := { program := "ytknfaomgplodkaadoor", sum := "e1388fa9876ce78336ec68e17971caa49e60b9abdfe8cd59b1b27b31a0e8b8b2", func := "theseus/theseuslaw03.CrcMixed", spec := "crcMixed", named := ["theseus/crc.shifted"], apart := false, laid := [("theseus/crc.shifted", laid_theseus_crc_shifted)], narrowed := true }
def CrcMixedUptoSaid : Prop := crcMixedUptoRow.holds Tryd.pinned (OpenSpec.upto crcMixedSpec)

/-- 'theseuslaw03.CrcSteps', WHERE WHAT IT READS IS OF BULK AT MOST 1048576: true; the input reads as it did. -/
def crcStepsUptoRow : OpenClaim := { program := "ytknfaomgplodkaadoor", sum := "e1388fa9876ce78336ec68e17971caa49e60b9abdfe8cd59b1b27b31a0e8b8b2", func := "theseus/theseuslaw03.CrcSteps", spec := "crcSteps", named := ["theseus/crc.shifted"], apart := false, laid := [("theseus/crc.shifted", laid_theseus_crc_shifted)], narrowed := true }
def CrcStepsUptoSaid : Prop := crcStepsUptoRow.holds Tryd.pinned (OpenSpec.upto crcStepsSpec)

end Rows
end Go.Proofs.YtknfaomgplodkaaDoor
