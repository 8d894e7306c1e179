/-
  NARROWER THAN 'FOR EVERY INPUT', by the rows' own cells (each row's printed sentence says how): NetfileAll: laid · NetfileBack: laid · NetfileTaken: laid · NetfileSize: laid · NetfileParts: laid · NetfileOdd: laid · NetfileUnlike: laid.
  DERIVED. THE GIVEN ROWS OF THIS SEAT. 7 by the template 'for every input the law returns true; each argument reads behind the call as it read before'; 0 by the template 'total and deterministic' (their statements: YtohggpaffmcfoaaDoorTotals.lean).
  GIVEN WITH THE SEED: the statements are not yours to turn. If you find one false, say at which input.
  Laid BY PROGRAM, IN A SANDBOX (cutbox-rows.mjs): the forced cells as the released guide's own fill.sh prints them over the translation ca67c2664f6ddd0d… (all of the seat's roots in one cut). By AI agents, Wed Nov 11 2026. No macro, syntax, notation, axiom, sorry.
-/
import Derived.Test.YtohggpaffmcfoaaDoorChecked
import GoSem.Claim
import GoSem.ClaimJoined
import GoSem.ClaimMapViews
import Derived.JoinedTies
import Derived.KernelRfl
namespace Go.Proofs.YtohggpaffmcfoaaDoor
/- THE CELL 'sum', in the pinned program and in every row, IS THE sha256 OF THE DUMP (.gsa) THAT YtohggpaffmcfoaaDoorProg.lean LOADS. Nothing in Lean hashes anything: it is a label: what it is worth is what the hold of that sum in a sandbox is worth. -/
noncomputable def Tryd.pinned : Pinned := { name := "ytohggpaffmcfoaadoor", sum := "ca67c2664f6ddd0dd322f25db436a735c995efaf68f70f34b422fa0e048f6854", checked := Tryd.checked }
namespace Rows
def none {H : Type} : Left H := { results := [], args := [] }

/- WHAT THE LISTED PACKAGE-LEVEL VARIABLES READ AS WHEN THE CALL BEGINS. Each datum BY PROGRAM (the guide's laid-datum.mjs) off the statement by which the dump's own 'gosem.cut.vars' lays the variable. In a bare row this is a premise. The card (YtohggpaffmcfoaaDoorCards.lean) ties it to the program's text. -/
def laid_theseus_crc_shifted {H : Type} : DataW H := .agg [.lit (.int .u32 0), .lit (.int .u32 274646895), .lit (.int .u32 549293790), .lit (.int .u32 820201905), .lit (.int .u32 1098587580), .lit (.int .u32 1361435347), .lit (.int .u32 1640403810), .lit (.int .u32 1905808397), .lit (.int .u32 2197175160), .lit (.int .u32 2460548119), .lit (.int .u32 2722870694), .lit (.int .u32 2987750089), .lit (.int .u32 3280807620), .lit (.int .u32 3553878443), .lit (.int .u32 3811616794), .lit (.int .u32 4084100981)]

/-- 'theseuslaw10.NetfileAll': WHATEVER THE INPUT: true; the input reads as it did. -/
def netfileAllSpec : ChangeSpec := { name := "netfileAll", fn := fun _ => fun
  | [d1, d2] => { results := [.lit (.bool true)], args := [d1, d2] }
  | _ => none }
def netfileAllRow : OpenClaim := { program := "ytohggpaffmcfoaadoor", sum := "ca67c2664f6ddd0dd322f25db436a735c995efaf68f70f34b422fa0e048f6854", func := "theseus/theseuslaw10.NetfileAll", spec := "netfileAll", unfollowed := true, recurses := true, named := ["theseus/crc.shifted"], apart := false, laid := [("theseus/crc.shifted", laid_theseus_crc_shifted)] }
def NetfileAllSaid : Prop := netfileAllRow.holds Tryd.pinned (OpenSpec.ofChange netfileAllSpec)

/-- ITS FALSE NEIGHBOUR: 'it returns false'. Refute it at one input. -/
def netfileAllWrong : ChangeSpec := { name := "netfileAll", fn := fun _ => fun
  | [d1, d2] => { results := [.lit (.bool false)], args := [d1, d2] }
  | _ => none }
def NetfileAllWrongFalsely : Prop := netfileAllRow.holds Tryd.pinned (OpenSpec.ofChange netfileAllWrong)

/-- 'theseuslaw10.NetfileBack': WHATEVER THE INPUT: true; the input reads as it did. -/
def netfileBackSpec : ChangeSpec := { name := "netfileBack", fn := fun _ => fun
  | [d1, d2, d3] => { results := [.lit (.bool true)], args := [d1, d2, d3] }
  | _ => none }
def netfileBackRow : OpenClaim := { program := "ytohggpaffmcfoaadoor", sum := "ca67c2664f6ddd0dd322f25db436a735c995efaf68f70f34b422fa0e048f6854", func := "theseus/theseuslaw10.NetfileBack", spec := "netfileBack", unfollowed := true, recurses := true, named := ["theseus/crc.shifted"], apart := false, laid := [("theseus/crc.shifted", laid_theseus_crc_shifted)] }
def NetfileBackSaid : Prop := netfileBackRow.holds Tryd.pinned (OpenSpec.ofChange netfileBackSpec)

/-- ITS FALSE NEIGHBOUR: 'it returns false'. Refute it at one input. -/
def netfileBackWrong : ChangeSpec := { name := "netfileBack", fn := fun _ => fun
  | [d1, d2, d3] => { results := [.lit (.bool false)], args := [d1, d2, d3] }
  | _ => none }
def NetfileBackWrongFalsely : Prop := netfileBackRow.holds Tryd.pinned (OpenSpec.ofChange netfileBackWrong)

/-- 'theseuslaw10.NetfileTaken': WHATEVER THE INPUT: true; the input reads as it did. -/
def netfileTakenSpec : ChangeSpec := { name := "netfileTaken", fn := fun _ => fun
  | [d] => { results := [.lit (.bool true)], args := [d] }
  | _ => none }
def netfileTakenRow : OpenClaim := { program := "ytohggpaffmcfoaadoor", sum := "ca67c2664f6ddd0dd322f25db436a735c995efaf68f70f34b422fa0e048f6854", func := "theseus/theseuslaw10.NetfileTaken", spec := "netfileTaken", unfollowed := true, recurses := true, named := ["theseus/crc.shifted"], apart := false, laid := [("theseus/crc.shifted", laid_theseus_crc_shifted)] }
def NetfileTakenSaid : Prop := netfileTakenRow.holds Tryd.pinned (OpenSpec.ofChange netfileTakenSpec)

/-- ITS FALSE NEIGHBOUR: 'it returns false'. Refute it at one input. -/
def netfileTakenWrong : ChangeSpec := { name := "netfileTaken", fn := fun _ => fun
  | [d] => { results := [.lit (.bool false)], args := [d] }
  | _ => none }
def NetfileTakenWrongFalsely : Prop := netfileTakenRow.holds Tryd.pinned (OpenSpec.ofChange netfileTakenWrong)

/-- 'theseuslaw10.NetfileSize': WHATEVER THE INPUT: true; the input reads as it did. -/
def netfileSizeSpec : ChangeSpec := { name := "netfileSize", fn := fun _ => fun
  | [d] => { results := [.lit (.bool true)], args := [d] }
  | _ => none }
def netfileSizeRow : OpenClaim := { program := "ytohggpaffmcfoaadoor", sum := "ca67c2664f6ddd0dd322f25db436a735c995efaf68f70f34b422fa0e048f6854", func := "theseus/theseuslaw10.NetfileSize", spec := "netfileSize", unfollowed := true, recurses := true, named := ["theseus/crc.shifted"], apart := false, laid := [("theseus/crc.shifted", laid_theseus_crc_shifted)] }
def NetfileSizeSaid : Prop := netfileSizeRow.holds Tryd.pinned (OpenSpec.ofChange netfileSizeSpec)

/-- ITS FALSE NEIGHBOUR: 'it returns false'. Refute it at one input. -/
def netfileSizeWrong : ChangeSpec := { name := "netfileSize", fn := fun _ => fun
  | [d] => { results := [.lit (.bool false)], args := [d] }
  | _ => none }
def NetfileSizeWrongFalsely : Prop := netfileSizeRow.holds Tryd.pinned (OpenSpec.ofChange netfileSizeWrong)

/-- 'theseuslaw10.NetfileParts': WHATEVER THE INPUT: true; the input reads as it did. -/
def netfilePartsSpec : ChangeSpec := { name := "netfileParts", fn := fun _ => fun
  | [d] => { results := [.lit (.bool true)], args := [d] }
  | _ => none }
def netfilePartsRow : OpenClaim := { program := "ytohggpaffmcfoaadoor", sum := "ca67c2664f6ddd0dd322f25db436a735c995efaf68f70f34b422fa0e048f6854", func := "theseus/theseuslaw10.NetfileParts", spec := "netfileParts", unfollowed := true, recurses := true, named := ["theseus/crc.shifted"], apart := false, laid := [("theseus/crc.shifted", laid_theseus_crc_shifted)] }
def NetfilePartsSaid : Prop := netfilePartsRow.holds Tryd.pinned (OpenSpec.ofChange netfilePartsSpec)

/-- ITS FALSE NEIGHBOUR: 'it returns false'. Refute it at one input. -/
def netfilePartsWrong : ChangeSpec := { name := "netfileParts", fn := fun _ => fun
  | [d] => { results := [.lit (.bool false)], args := [d] }
  | _ => none }
def NetfilePartsWrongFalsely : Prop := netfilePartsRow.holds Tryd.pinned (OpenSpec.ofChange netfilePartsWrong)

/-- 'theseuslaw10.NetfileOdd': WHATEVER THE INPUT: true; the input reads as it did. -/
def netfileOddSpec : ChangeSpec := { name := "netfileOdd", fn := fun _ => fun
  | [d1, d2] => { results := [.lit (.bool true)], args := [d1, d2] }
  | _ => none }
def netfileOddRow : OpenClaim := { program := "ytohggpaffmcfoaadoor", sum := "ca67c2664f6ddd0dd322f25db436a735c995efaf68f70f34b422fa0e048f6854", func := "theseus/theseuslaw10.NetfileOdd", spec := "netfileOdd", unfollowed := true, recurses := true, named := ["theseus/crc.shifted"], apart := false, laid := [("theseus/crc.shifted", laid_theseus_crc_shifted)] }
def NetfileOddSaid : Prop := netfileOddRow.holds Tryd.pinned (OpenSpec.ofChange netfileOddSpec)

/-- ITS FALSE NEIGHBOUR: 'it returns false'. Refute it at one input. -/
def netfileOddWrong : ChangeSpec := { name := "netfileOdd", fn := fun _ => fun
  | [d1, d2] => { results := [.lit (.bool false)], args := [d1, d2] }
  | _ => none }
def NetfileOddWrongFalsely : Prop := netfileOddRow.holds Tryd.pinned (OpenSpec.ofChange netfileOddWrong)

/-- 'theseuslaw10.NetfileUnlike': WHATEVER THE INPUT: true; the input reads as it did. -/
def netfileUnlikeSpec : ChangeSpec := { name := "netfileUnlike", fn := fun _ => fun
  | [d1, d2] => { results := [.lit (.bool true)], args := [d1, d2] }
  | _ => none }
def netfileUnlikeRow : OpenClaim := { program := "ytohggpaffmcfoaadoor", sum := "ca67c2664f6ddd0dd322f25db436a735c995efaf68f70f34b422fa0e048f6854", func := "theseus/theseuslaw10.NetfileUnlike", spec := "netfileUnlike", unfollowed := true, recurses := true, named := ["theseus/crc.shifted"], apart := false, laid := [("theseus/crc.shifted", laid_theseus_crc_shifted)] }
def NetfileUnlikeSaid : Prop := netfileUnlikeRow.holds Tryd.pinned (OpenSpec.ofChange netfileUnlikeSpec)

/-- ITS FALSE NEIGHBOUR: 'it returns false'. Refute it at one input. -/
def netfileUnlikeWrong : ChangeSpec := { name := "netfileUnlike", fn := fun _ => fun
  | [d1, d2] => { results := [.lit (.bool false)], args := [d1, d2] }
  | _ => none }
def NetfileUnlikeWrongFalsely : Prop := netfileUnlikeRow.holds Tryd.pinned (OpenSpec.ofChange netfileUnlikeWrong)

/- THE SECOND FORM. 'bulk': how many values and letters a reading holds, each counted each time it is reached (what is shared counts as often as it is met; a slice's spare places count too). A statement '..UptoSaid' is the law's where the arguments, and the package variables that the reading takes, are together of bulk at most 1048576: NARROWER than '..Said'. Prove '..Said' where nothing that the law and all that it calls make is longer than what came in: it says more and counts as full. Else prove '..UptoSaid'. A law counts once. -/
mutual
def uptoBulk {H : Type} : DataW H → Nat
  | .lit (.string bytes) => bytes.length + 1
  | .lit _ => 1
  | .nil => 1
  | .ptr d => uptoBulk d + 1
  | .slice elems spare => uptoBulkAll elems + uptoBulkAll spare + 1
  | .agg parts => uptoBulkAll parts + 1
  | .iface _ d => uptoBulk d + 1
  | .map entries => uptoBulkEntries entries + 1
  | .held _ => 1
def uptoBulkAll {H : Type} : List (DataW H) → Nat
  | [] => 0
  | d :: r => uptoBulk d + uptoBulkAll r
def uptoBulkEntries {H : Type} : List (Lit × DataW H) → Nat
  | [] => 0
  | x :: r => uptoBulkEntry x + uptoBulkEntries r
def uptoBulkEntry {H : Type} : Lit × DataW H → Nat
  | (.string bytes, d) => bytes.length + uptoBulk d + 1
  | (_, d) => uptoBulk d + 1
 end
def uptoSmall : (H : Type) → List (DataW H) → Bool := fun _ ds => decide (uptoBulkAll ds ≤ 1048576)
def OpenSpec.upto (s : _root_.Go.ChangeSpec) : _root_.Go.OpenSpec := { _root_.Go.OpenSpec.ofChange s with cond := some uptoSmall }

/-- 'theseuslaw10.NetfileAll', WHERE WHAT IT READS IS OF BULK AT MOST 1048576: true; the input reads as it did. -/
def netfileAllUptoRow : OpenClaim := { program := "ytohggpaffmcfoaadoor", sum := "ca67c2664f6ddd0dd322f25db436a735c995efaf68f70f34b422fa0e048f6854", func := "theseus/theseuslaw10.NetfileAll", spec := "netfileAll", unfollowed := true, recurses := true, named := ["theseus/crc.shifted"], apart := false, laid := [("theseus/crc.shifted", laid_theseus_crc_shifted)], narrowed := true }
def NetfileAllUptoSaid : Prop := netfileAllUptoRow.holds Tryd.pinned (OpenSpec.upto netfileAllSpec)

/-- 'theseuslaw10.NetfileBack', WHERE WHAT IT READS IS OF BULK AT MOST 1048576: true; the input reads as it did. -/
def netfileBackUptoRow : OpenClaim := { program := "ytohggpaffmcfoaadoor", sum := "ca67c2664f6ddd0dd322f25db436a735c995efaf68f70f34b422fa0e048f6854", func := "theseus/theseuslaw10.NetfileBack", spec := "netfileBack", unfollowed := true, recurses := true, named := ["theseus/crc.shifted"], apart := false, laid := [("theseus/crc.shifted", laid_theseus_crc_shifted)], narrowed := true }
def NetfileBackUptoSaid : Prop := netfileBackUptoRow.holds Tryd.pinned (OpenSpec.upto netfileBackSpec)

/-- 'theseuslaw10.NetfileTaken', WHERE WHAT IT READS IS OF BULK AT MOST 1048576: true; the input reads as it did. -/
def netfileTakenUptoRow : OpenClaim := { program := "ytohggpaffmcfoaadoor", sum := "ca67c2664f6ddd0dd322f25db436a735c995efaf68f70f34b422fa0e048f6854", func := "theseus/theseuslaw10.NetfileTaken", spec := "netfileTaken", unfollowed := true, recurses := true, named := ["theseus/crc.shifted"], apart := false, laid := [("theseus/crc.shifted", laid_theseus_crc_shifted)], narrowed := true }
def NetfileTakenUptoSaid : Prop := netfileTakenUptoRow.holds Tryd.pinned (OpenSpec.upto netfileTakenSpec)

/-- 'theseuslaw10.NetfileSize', WHERE WHAT IT READS IS OF BULK AT MOST 1048576: true; the input reads as it did. -/
def netfileSizeUptoRow : OpenClaim := { program := "ytohggpaffmcfoaadoor", sum := "ca67c2664f6ddd0dd322f25db436a735c995efaf68f70f34b422fa0e048f6854", func := "theseus/theseuslaw10.NetfileSize", spec := "netfileSize", unfollowed := true, recurses := true, named := ["theseus/crc.shifted"], apart := false, laid := [("theseus/crc.shifted", laid_theseus_crc_shifted)], narrowed := true }
def NetfileSizeUptoSaid : Prop := netfileSizeUptoRow.holds Tryd.pinned (OpenSpec.upto netfileSizeSpec)

/-- 'theseuslaw10.NetfileParts', WHERE WHAT IT READS IS OF BULK AT MOST 1048576: true; the input reads as it did. -/
def netfilePartsUptoRow : OpenClaim := { program := "ytohggpaffmcfoaadoor", sum := "ca67c2664f6ddd0dd322f25db436a735c995efaf68f70f34b422fa0e048f6854", func := "theseus/theseuslaw10.NetfileParts", spec := "netfileParts", unfollowed := true, recurses := true, named := ["theseus/crc.shifted"], apart := false, laid := [("theseus/crc.shifted", laid_theseus_crc_shifted)], narrowed := true }
def NetfilePartsUptoSaid : Prop := netfilePartsUptoRow.holds Tryd.pinned (OpenSpec.upto netfilePartsSpec)

/-- 'theseuslaw10.NetfileOdd', WHERE WHAT IT READS IS OF BULK AT MOST 1048576: true; the input reads as it did. -/
def netfileOddUptoRow : OpenClaim := { program := "ytohggpaffmcfoaadoor", sum := "ca67c2664f6ddd0dd322f25db436a735c995efaf68f70f34b422fa0e048f6854", func := "theseus/theseuslaw10.NetfileOdd", spec := "netfileOdd", unfollowed := true, recurses := true, named := ["theseus/crc.shifted"], apart := false, laid := [("theseus/crc.shifted", laid_theseus_crc_shifted)], narrowed := true }
def NetfileOddUptoSaid : Prop := netfileOddUptoRow.holds Tryd.pinned (OpenSpec.upto netfileOddSpec)

/-- 'theseuslaw10.NetfileUnlike', WHERE WHAT IT READS IS OF BULK AT MOST 1048576: true; the input reads as it did. -/
def netfileUnlikeUptoRow : OpenClaim := { program := "ytohggpaffmcfoaadoor", sum := "ca67c2664f6ddd0dd322f25db436a735c995efaf68f70f34b422fa0e048f6854", func := "theseus/theseuslaw10.NetfileUnlike", spec := "netfileUnlike", unfollowed := true, recurses := true, named := ["theseus/crc.shifted"], apart := false, laid := [("theseus/crc.shifted", laid_theseus_crc_shifted)], narrowed := true }
def NetfileUnlikeUptoSaid : Prop := netfileUnlikeUptoRow.holds Tryd.pinned (OpenSpec.upto netfileUnlikeSpec)

end Rows
end Go.Proofs.YtohggpaffmcfoaaDoor
