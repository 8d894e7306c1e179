/-
  NARROWER THAN 'FOR EVERY INPUT', by the rows' own cells (each row's printed sentence says how): FrameAll: laid · FrameBack: laid · FrameSpoilt: laid · FrameTaken: laid · FrameShort: laid · FrameUnlike: laid.
  DERIVED. THE GIVEN ROWS OF THIS SEAT. 6 by the template 'for every input the law returns true; each argument reads behind the call as it read before'; 0 by the template 'total and deterministic' (their statements: YtlobajlodbdeiaaDoorTotals.lean).
  GIVEN WITH THE SEED: the statements are not yours to turn. If you find one false, say at which input.
  Laid BY PROGRAM, IN A SANDBOX (cutbox-rows.mjs): the forced cells as the released guide's own fill.sh prints them over the translation a80e865f604fb1cb… (all of the seat's roots in one cut). By AI agents, Wed Nov 11 2026. No macro, syntax, notation, axiom, sorry.
-/
import Derived.Test.YtlobajlodbdeiaaDoorChecked
import GoSem.Claim
import GoSem.ClaimJoined
import GoSem.ClaimMapViews
import Derived.JoinedTies
import Derived.KernelRfl
namespace Go.Proofs.YtlobajlodbdeiaaDoor
/- THE CELL 'sum', in the pinned program and in every row, IS THE sha256 OF THE DUMP (.gsa) THAT YtlobajlodbdeiaaDoorProg.lean LOADS. Nothing in Lean hashes anything: it is a label: what it is worth is what the hold of that sum in a sandbox is worth. -/
noncomputable def Tryd.pinned : Pinned := { name := "ytlobajlodbdeiaadoor", sum := "a80e865f604fb1cb4e4b1f5d2a72dc617fb565246641f034f7005d7bd5e396f0", checked := Tryd.checked }
namespace Rows
def none {H : Type} : Left H := { results := [], args := [] }

/- WHAT THE LISTED PACKAGE-LEVEL VARIABLES READ AS WHEN THE CALL BEGINS. Each datum BY PROGRAM (the guide's laid-datum.mjs) off the statement by which the dump's own 'gosem.cut.vars' lays the variable. In a bare row this is a premise. The card (YtlobajlodbdeiaaDoorCards.lean) ties it to the program's text. -/
def laid_theseus_crc_shifted {H : Type} : DataW H := .agg [.lit (.int .u32 0), .lit (.int .u32 274646895), .lit (.int .u32 549293790), .lit (.int .u32 820201905), .lit (.int .u32 1098587580), .lit (.int .u32 1361435347), .lit (.int .u32 1640403810), .lit (.int .u32 1905808397), .lit (.int .u32 2197175160), .lit (.int .u32 2460548119), .lit (.int .u32 2722870694), .lit (.int .u32 2987750089), .lit (.int .u32 3280807620), .lit (.int .u32 3553878443), .lit (.int .u32 3811616794), .lit (.int .u32 4084100981)]

/-- 'theseuslaw04.FrameAll': WHATEVER THE INPUT: true; the input reads as it did. -/
def frameAllSpec : ChangeSpec := { name := "frameAll", fn := fun _ => fun
  | [d1, d2, d3] => { results := [.lit (.bool true)], args := [d1, d2, d3] }
  | _ => none }
def frameAllRow : OpenClaim := { program := "ytlobajlodbdeiaadoor", sum := "a80e865f604fb1cb4e4b1f5d2a72dc617fb565246641f034f7005d7bd5e396f0", func := "theseus/theseuslaw04.FrameAll", spec := "frameAll", named := ["theseus/crc.shifted"], apart := false, laid := [("theseus/crc.shifted", laid_theseus_crc_shifted)] }
def FrameAllSaid : Prop := frameAllRow.holds Tryd.pinned (OpenSpec.ofChange frameAllSpec)

/-- ITS FALSE NEIGHBOUR: 'it returns false'. Refute it at one input. -/
def frameAllWrong : ChangeSpec := { name := "frameAll", fn := fun _ => fun
  | [d1, d2, d3] => { results := [.lit (.bool false)], args := [d1, d2, d3] }
  | _ => none }
def FrameAllWrongFalsely : Prop := frameAllRow.holds Tryd.pinned (OpenSpec.ofChange frameAllWrong)

/-- 'theseuslaw04.FrameBack': WHATEVER THE INPUT: true; the input reads as it did. -/
def frameBackSpec : ChangeSpec := { name := "frameBack", fn := fun _ => fun
  | [d1, d2, d3] => { results := [.lit (.bool true)], args := [d1, d2, d3] }
  | _ => none }
def frameBackRow : OpenClaim := { program := "ytlobajlodbdeiaadoor", sum := "a80e865f604fb1cb4e4b1f5d2a72dc617fb565246641f034f7005d7bd5e396f0", func := "theseus/theseuslaw04.FrameBack", spec := "frameBack", named := ["theseus/crc.shifted"], apart := false, laid := [("theseus/crc.shifted", laid_theseus_crc_shifted)] }
def FrameBackSaid : Prop := frameBackRow.holds Tryd.pinned (OpenSpec.ofChange frameBackSpec)

/-- ITS FALSE NEIGHBOUR: 'it returns false'. Refute it at one input. -/
def frameBackWrong : ChangeSpec := { name := "frameBack", fn := fun _ => fun
  | [d1, d2, d3] => { results := [.lit (.bool false)], args := [d1, d2, d3] }
  | _ => none }
def FrameBackWrongFalsely : Prop := frameBackRow.holds Tryd.pinned (OpenSpec.ofChange frameBackWrong)

/-- 'theseuslaw04.FrameSpoilt': WHATEVER THE INPUT: true; the input reads as it did. -/
def frameSpoiltSpec : ChangeSpec := { name := "frameSpoilt", fn := fun _ => fun
  | [d1, d2, d3] => { results := [.lit (.bool true)], args := [d1, d2, d3] }
  | _ => none }
def frameSpoiltRow : OpenClaim := { program := "ytlobajlodbdeiaadoor", sum := "a80e865f604fb1cb4e4b1f5d2a72dc617fb565246641f034f7005d7bd5e396f0", func := "theseus/theseuslaw04.FrameSpoilt", spec := "frameSpoilt", named := ["theseus/crc.shifted"], apart := false, laid := [("theseus/crc.shifted", laid_theseus_crc_shifted)] }
def FrameSpoiltSaid : Prop := frameSpoiltRow.holds Tryd.pinned (OpenSpec.ofChange frameSpoiltSpec)

/-- ITS FALSE NEIGHBOUR: 'it returns false'. Refute it at one input. -/
def frameSpoiltWrong : ChangeSpec := { name := "frameSpoilt", fn := fun _ => fun
  | [d1, d2, d3] => { results := [.lit (.bool false)], args := [d1, d2, d3] }
  | _ => none }
def FrameSpoiltWrongFalsely : Prop := frameSpoiltRow.holds Tryd.pinned (OpenSpec.ofChange frameSpoiltWrong)

/-- 'theseuslaw04.FrameTaken': WHATEVER THE INPUT: true; the input reads as it did. -/
def frameTakenSpec : ChangeSpec := { name := "frameTaken", fn := fun _ => fun
  | [d1, d2] => { results := [.lit (.bool true)], args := [d1, d2] }
  | _ => none }
def frameTakenRow : OpenClaim := { program := "ytlobajlodbdeiaadoor", sum := "a80e865f604fb1cb4e4b1f5d2a72dc617fb565246641f034f7005d7bd5e396f0", func := "theseus/theseuslaw04.FrameTaken", spec := "frameTaken", named := ["theseus/crc.shifted"], apart := false, laid := [("theseus/crc.shifted", laid_theseus_crc_shifted)] }
def FrameTakenSaid : Prop := frameTakenRow.holds Tryd.pinned (OpenSpec.ofChange frameTakenSpec)

/-- ITS FALSE NEIGHBOUR: 'it returns false'. Refute it at one input. -/
def frameTakenWrong : ChangeSpec := { name := "frameTaken", fn := fun _ => fun
  | [d1, d2] => { results := [.lit (.bool false)], args := [d1, d2] }
  | _ => none }
def FrameTakenWrongFalsely : Prop := frameTakenRow.holds Tryd.pinned (OpenSpec.ofChange frameTakenWrong)

/-- 'theseuslaw04.FrameShort': WHATEVER THE INPUT: true; the input reads as it did. -/
def frameShortSpec : ChangeSpec := { name := "frameShort", fn := fun _ => fun
  | [d1, d2, d3] => { results := [.lit (.bool true)], args := [d1, d2, d3] }
  | _ => none }
def frameShortRow : OpenClaim := { program := "ytlobajlodbdeiaadoor", sum := "a80e865f604fb1cb4e4b1f5d2a72dc617fb565246641f034f7005d7bd5e396f0", func := "theseus/theseuslaw04.FrameShort", spec := "frameShort", named := ["theseus/crc.shifted"], apart := false, laid := [("theseus/crc.shifted", laid_theseus_crc_shifted)] }
def FrameShortSaid : Prop := frameShortRow.holds Tryd.pinned (OpenSpec.ofChange frameShortSpec)

/-- ITS FALSE NEIGHBOUR: 'it returns false'. Refute it at one input. -/
def frameShortWrong : ChangeSpec := { name := "frameShort", fn := fun _ => fun
  | [d1, d2, d3] => { results := [.lit (.bool false)], args := [d1, d2, d3] }
  | _ => none }
def FrameShortWrongFalsely : Prop := frameShortRow.holds Tryd.pinned (OpenSpec.ofChange frameShortWrong)

/-- 'theseuslaw04.FrameUnlike': WHATEVER THE INPUT: true; the input reads as it did. -/
def frameUnlikeSpec : ChangeSpec := { name := "frameUnlike", fn := fun _ => fun
  | [d1, d2, d3] => { results := [.lit (.bool true)], args := [d1, d2, d3] }
  | _ => none }
def frameUnlikeRow : OpenClaim := { program := "ytlobajlodbdeiaadoor", sum := "a80e865f604fb1cb4e4b1f5d2a72dc617fb565246641f034f7005d7bd5e396f0", func := "theseus/theseuslaw04.FrameUnlike", spec := "frameUnlike", named := ["theseus/crc.shifted"], apart := false, laid := [("theseus/crc.shifted", laid_theseus_crc_shifted)] }
def FrameUnlikeSaid : Prop := frameUnlikeRow.holds Tryd.pinned (OpenSpec.ofChange frameUnlikeSpec)

/-- ITS FALSE NEIGHBOUR: 'it returns false'. Refute it at one input. -/
def frameUnlikeWrong : ChangeSpec := { name := "frameUnlike", fn := fun _ => fun
  | [d1, d2, d3] => { results := [.lit (.bool false)], args := [d1, d2, d3] }
  | _ => none }
def FrameUnlikeWrongFalsely : Prop := frameUnlikeRow.holds Tryd.pinned (OpenSpec.ofChange frameUnlikeWrong)

/- THE SECOND FORM. 'bulk': how many values and letters a reading holds, each counted each time it is reached (what is shared counts as often as it is met; a slice's spare places count too). A statement '..UptoSaid' is the law's where the arguments, and the package variables that the reading takes, are together of bulk at most 1048576: NARROWER than '..Said'. Prove '..Said' where nothing that the law and all that it calls make is longer than what came in: it says more and counts as full. Else prove '..UptoSaid'. A law counts once. -/
mutual
def uptoBulk {H : Type} : DataW H → Nat
  | .lit (.string bytes) => bytes.length + 1
  | .lit _ => 1
  | .nil => 1
  | .ptr d => uptoBulk d + 1
  | .slice elems spare => uptoBulkAll elems + uptoBulkAll spare + 1
  | .agg parts => uptoBulkAll parts + 1
  | .iface _ d => uptoBulk d + 1
  | .map entries => uptoBulkEntries entries + 1
  | .held _ => 1
def uptoBulkAll {H : Type} : List (DataW H) → Nat
  | [] => 0
  | d :: r => uptoBulk d + uptoBulkAll r
def uptoBulkEntries {H : Type} : List (Lit × DataW H) → Nat
  | [] => 0
  | x :: r => uptoBulkEntry x + uptoBulkEntries r
def uptoBulkEntry {H : Type} : Lit × DataW H → Nat
  | (.string bytes, d) => bytes.length + uptoBulk d + 1
  | (_, d) => uptoBulk d + 1
 end
def uptoSmall : (H : Type) → List (DataW H) → Bool := fun _ ds => decide (uptoBulkAll ds ≤ 1048576)
def OpenSpec.upto (s : _root_.Go.ChangeSpec) : _root_.Go.OpenSpec := { _root_.Go.OpenSpec.ofChange s with cond := some uptoSmall }

/-- 'theseuslaw04.FrameAll', WHERE WHAT IT READS IS OF BULK AT MOST 1048576: true; the input reads as it did. -/
def frameAllUptoRow : OpenClaim := { program := "ytlobajlodbdeiaadoor", sum := "a80e865f604fb1cb4e4b1f5d2a72dc617fb565246641f034f7005d7bd5e396f0", func := "theseus/theseuslaw04.FrameAll", spec := "frameAll", named := ["theseus/crc.shifted"], apart := false, laid := [("theseus/crc.shifted", laid_theseus_crc_shifted)], narrowed := true }
def FrameAllUptoSaid : Prop := frameAllUptoRow.holds Tryd.pinned (OpenSpec.upto frameAllSpec)

/-- 'theseuslaw04.FrameBack', WHERE WHAT IT READS IS OF BULK AT MOST 1048576: true; the input reads as it did. -/
def frameBackUptoRow : OpenClaim := { program := "ytlobajlodbdeiaadoor", sum := "a80e865f604fb1cb4e4b1f5d2a72dc617fb565246641f034f7005d7bd5e396f0", func := "theseus/theseuslaw04.FrameBack", spec := "frameBack", named := ["theseus/crc.shifted"], apart := false, laid := [("theseus/crc.shifted", laid_theseus_crc_shifted)], narrowed := true }
def FrameBackUptoSaid : Prop := frameBackUptoRow.holds Tryd.pinned (OpenSpec.upto frameBackSpec)

/-- 'theseuslaw04.FrameSpoilt', WHERE WHAT IT READS IS OF BULK AT MOST 1048576: true; the input reads as it did. -/
def frameSpoiltUptoRow : OpenClaim := { program := "ytlobajlodbdeiaadoor", sum := "a80e865f604fb1cb4e4b1f5d2a72dc617fb565246641f034f7005d7bd5e396f0", func := "theseus/theseuslaw04.FrameSpoilt", spec := "frameSpoilt", named := ["theseus/crc.shifted"], apart := false, laid := [("theseus/crc.shifted", laid_theseus_crc_shifted)], narrowed := true }
def FrameSpoiltUptoSaid : Prop := frameSpoiltUptoRow.holds Tryd.pinned (OpenSpec.upto frameSpoiltSpec)

/-- 'theseuslaw04.FrameTaken', WHERE WHAT IT READS IS OF BULK AT MOST 1048576: true; the input reads as it did. -/
def frameTakenUptoRow : OpenClaim := { program := "ytlobajlodbdeiaadoor", sum := "a80e865f604fb1cb4e4b1f5d2a72dc617fb565246641f034f7005d7bd5e396f0", func := "theseus/theseuslaw04.FrameTaken", spec := "frameTaken", named := ["theseus/crc.shifted"], apart := false, laid := [("theseus/crc.shifted", laid_theseus_crc_shifted)], narrowed := true }
def FrameTakenUptoSaid : Prop := frameTakenUptoRow.holds Tryd.pinned (OpenSpec.upto frameTakenSpec)

/-- 'theseuslaw04.FrameShort', WHERE WHAT IT READS IS OF BULK AT MOST 1048576: true; the input reads as it did. -/
def frameShortUptoRow : OpenClaim := { program := "ytlobajlodbdeiaadoor", sum := "a80e865f604fb1cb4e4b1f5d2a72dc617fb565246641f034f7005d7bd5e396f0", func := "theseus/theseuslaw04.FrameShort", spec := "frameShort", named := ["theseus/crc.shifted"], apart := false, laid := [("theseus/crc.shifted", laid_theseus_crc_shifted)], narrowed := true }
def FrameShortUptoSaid : Prop := frameShortUptoRow.holds Tryd.pinned (OpenSpec.upto frameShortSpec)

/-- 'theseuslaw04.FrameUnlike', WHERE WHAT IT READS IS OF BULK AT MOST 1048576: true; the input reads as it did. -/
def frameUnlikeUptoRow : OpenClaim := { program := "ytlobajlodbdeiaadoor", sum := "a80e865f604fb1cb4e4b1f5d2a72dc617fb565246641f034f7005d7bd5e396f0", func := "theseus/theseuslaw04.FrameUnlike", spec := "frameUnlike", named := ["theseus/crc.shifted"], apart := false, laid := [("theseus/crc.shifted", laid_theseus_crc_shifted)], narrowed := true }
def FrameUnlikeUptoSaid : Prop := frameUnlikeUptoRow.holds Tryd.pinned (OpenSpec.upto frameUnlikeSpec)

end Rows
end Go.Proofs.YtlobajlodbdeiaaDoor
