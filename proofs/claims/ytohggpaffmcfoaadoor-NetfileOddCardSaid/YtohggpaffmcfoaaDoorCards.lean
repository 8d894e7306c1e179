/-
  DERIVED. GIVEN WITH THE SEED: THE CARDS: each row of YtohggpaffmcfoaaDoorRows.lean that lists a variable, with what it lists TIED to the program's text (the seventh form; the later family's looks); each row that meets fmt, with fmt's text TOLD by the authors' own Lean function (tested against real Go, not proved from fmt's source: count such statements apart). THE CARD IS WHAT COUNTS. Prove the row's statement (the work); the ties are given (YtohggpaffmcfoaaDoorTie.lean); close each card by the builder's one call (the guide's Derived/Test/ToyasCard.lean, 'card_holds'). Laid BY PROGRAM, IN A SANDBOX (cutbox-door.mjs). By AI agents, Wed Nov 11 2026. No macro, syntax, notation, axiom, sorry.
-/
import Derived.Test.YtohggpaffmcfoaaDoorRows
import GoSem.ClaimSeven
namespace Go.Proofs.YtohggpaffmcfoaaDoor
namespace Rows

/-- THE TIED CARD OF 'theseuslaw10.NetfileAll'. -/
def netfileAllCard : Claim7 := { stood := { row := netfileAllRow, standIns := [], harness := (true, "6fc7a8aab8eedeac39eafb041861e8f3ca857d7a95a201d4290f1aa3351a982a"), looks := false }, kinds := [], alts := [], laidByText := true, laidKinds := [.data], laidTests := true, laidLooks := .later }
def NetfileAllCardSaid : Prop := Claim7.holds Tryd.pinned (.plain (OpenSpec.ofChange netfileAllSpec)) netfileAllCard

/-- THE TIED CARD OF 'theseuslaw10.NetfileBack'. -/
def netfileBackCard : Claim7 := { stood := { row := netfileBackRow, standIns := [], harness := (true, "6fc7a8aab8eedeac39eafb041861e8f3ca857d7a95a201d4290f1aa3351a982a"), looks := false }, kinds := [], alts := [], laidByText := true, laidKinds := [.data], laidTests := true, laidLooks := .later }
def NetfileBackCardSaid : Prop := Claim7.holds Tryd.pinned (.plain (OpenSpec.ofChange netfileBackSpec)) netfileBackCard

/-- THE TIED CARD OF 'theseuslaw10.NetfileTaken'. -/
def netfileTakenCard : Claim7 := { stood := { row := netfileTakenRow, standIns := [], harness := (true, "6fc7a8aab8eedeac39eafb041861e8f3ca857d7a95a201d4290f1aa3351a982a"), looks := false }, kinds := [], alts := [], laidByText := true, laidKinds := [.data], laidTests := true, laidLooks := .later }
def NetfileTakenCardSaid : Prop := Claim7.holds Tryd.pinned (.plain (OpenSpec.ofChange netfileTakenSpec)) netfileTakenCard

/-- THE TIED CARD OF 'theseuslaw10.NetfileSize'. -/
def netfileSizeCard : Claim7 := { stood := { row := netfileSizeRow, standIns := [], harness := (true, "6fc7a8aab8eedeac39eafb041861e8f3ca857d7a95a201d4290f1aa3351a982a"), looks := false }, kinds := [], alts := [], laidByText := true, laidKinds := [.data], laidTests := true, laidLooks := .later }
def NetfileSizeCardSaid : Prop := Claim7.holds Tryd.pinned (.plain (OpenSpec.ofChange netfileSizeSpec)) netfileSizeCard

/-- THE TIED CARD OF 'theseuslaw10.NetfileParts'. -/
def netfilePartsCard : Claim7 := { stood := { row := netfilePartsRow, standIns := [], harness := (true, "6fc7a8aab8eedeac39eafb041861e8f3ca857d7a95a201d4290f1aa3351a982a"), looks := false }, kinds := [], alts := [], laidByText := true, laidKinds := [.data], laidTests := true, laidLooks := .later }
def NetfilePartsCardSaid : Prop := Claim7.holds Tryd.pinned (.plain (OpenSpec.ofChange netfilePartsSpec)) netfilePartsCard

/-- THE TIED CARD OF 'theseuslaw10.NetfileOdd'. -/
def netfileOddCard : Claim7 := { stood := { row := netfileOddRow, standIns := [], harness := (true, "6fc7a8aab8eedeac39eafb041861e8f3ca857d7a95a201d4290f1aa3351a982a"), looks := false }, kinds := [], alts := [], laidByText := true, laidKinds := [.data], laidTests := true, laidLooks := .later }
def NetfileOddCardSaid : Prop := Claim7.holds Tryd.pinned (.plain (OpenSpec.ofChange netfileOddSpec)) netfileOddCard

/-- THE TIED CARD OF 'theseuslaw10.NetfileUnlike'. -/
def netfileUnlikeCard : Claim7 := { stood := { row := netfileUnlikeRow, standIns := [], harness := (true, "6fc7a8aab8eedeac39eafb041861e8f3ca857d7a95a201d4290f1aa3351a982a"), looks := false }, kinds := [], alts := [], laidByText := true, laidKinds := [.data], laidTests := true, laidLooks := .later }
def NetfileUnlikeCardSaid : Prop := Claim7.holds Tryd.pinned (.plain (OpenSpec.ofChange netfileUnlikeSpec)) netfileUnlikeCard

/-- THE SECOND FORM's CARD OF 'theseuslaw10.NetfileAll'. -/
def netfileAllUptoCard : Claim7 := { stood := { row := netfileAllUptoRow, standIns := [], harness := (true, "6fc7a8aab8eedeac39eafb041861e8f3ca857d7a95a201d4290f1aa3351a982a"), looks := false }, kinds := [], alts := [], laidByText := true, laidKinds := [.data], laidTests := true, laidLooks := .later }
def NetfileAllUptoCardSaid : Prop := Claim7.holds Tryd.pinned (.plain (OpenSpec.upto netfileAllSpec)) netfileAllUptoCard

/-- THE SECOND FORM's CARD OF 'theseuslaw10.NetfileBack'. -/
def netfileBackUptoCard : Claim7 := { stood := { row := netfileBackUptoRow, standIns := [], harness := (true, "6fc7a8aab8eedeac39eafb041861e8f3ca857d7a95a201d4290f1aa3351a982a"), looks := false }, kinds := [], alts := [], laidByText := true, laidKinds := [.data], laidTests := true, laidLooks := .later }
def NetfileBackUptoCardSaid : Prop := Claim7.holds Tryd.pinned (.plain (OpenSpec.upto netfileBackSpec)) netfileBackUptoCard

/-- THE SECOND FORM's CARD OF 'theseuslaw10.NetfileTaken'. -/
def netfileTakenUptoCard : Claim7 := { stood := { row := netfileTakenUptoRow, standIns := [], harness := (true, "6fc7a8aab8eedeac39eafb041861e8f3ca857d7a95a201d4290f1aa3351a982a"), looks := false }, kinds := [], alts := [], laidByText := true, laidKinds := [.data], laidTests := true, laidLooks := .later }
def NetfileTakenUptoCardSaid : Prop := Claim7.holds Tryd.pinned (.plain (OpenSpec.upto netfileTakenSpec)) netfileTakenUptoCard

/-- THE SECOND FORM's CARD OF 'theseuslaw10.NetfileSize'. -/
def netfileSizeUptoCard : Claim7 := { stood := { row := netfileSizeUptoRow, standIns := [], harness := (true, "6fc7a8aab8eedeac39eafb041861e8f3ca857d7a95a201d4290f1aa3351a982a"), looks := false }, kinds := [], alts := [], laidByText := true, laidKinds := [.data], laidTests := true, laidLooks := .later }
def NetfileSizeUptoCardSaid : Prop := Claim7.holds Tryd.pinned (.plain (OpenSpec.upto netfileSizeSpec)) netfileSizeUptoCard

/-- THE SECOND FORM's CARD OF 'theseuslaw10.NetfileParts'. -/
def netfilePartsUptoCard : Claim7 := { stood := { row := netfilePartsUptoRow, standIns := [], harness := (true, "6fc7a8aab8eedeac39eafb041861e8f3ca857d7a95a201d4290f1aa3351a982a"), looks := false }, kinds := [], alts := [], laidByText := true, laidKinds := [.data], laidTests := true, laidLooks := .later }
def NetfilePartsUptoCardSaid : Prop := Claim7.holds Tryd.pinned (.plain (OpenSpec.upto netfilePartsSpec)) netfilePartsUptoCard

/-- THE SECOND FORM's CARD OF 'theseuslaw10.NetfileOdd'. -/
def netfileOddUptoCard : Claim7 := { stood := { row := netfileOddUptoRow, standIns := [], harness := (true, "6fc7a8aab8eedeac39eafb041861e8f3ca857d7a95a201d4290f1aa3351a982a"), looks := false }, kinds := [], alts := [], laidByText := true, laidKinds := [.data], laidTests := true, laidLooks := .later }
def NetfileOddUptoCardSaid : Prop := Claim7.holds Tryd.pinned (.plain (OpenSpec.upto netfileOddSpec)) netfileOddUptoCard

/-- THE SECOND FORM's CARD OF 'theseuslaw10.NetfileUnlike'. -/
def netfileUnlikeUptoCard : Claim7 := { stood := { row := netfileUnlikeUptoRow, standIns := [], harness := (true, "6fc7a8aab8eedeac39eafb041861e8f3ca857d7a95a201d4290f1aa3351a982a"), looks := false }, kinds := [], alts := [], laidByText := true, laidKinds := [.data], laidTests := true, laidLooks := .later }
def NetfileUnlikeUptoCardSaid : Prop := Claim7.holds Tryd.pinned (.plain (OpenSpec.upto netfileUnlikeSpec)) netfileUnlikeUptoCard
end Rows
end Go.Proofs.YtohggpaffmcfoaaDoor
