/-
  DERIVED. GIVEN WITH THE SEED: THE CARDS: each row of YtjloiljiighghaaDoorRows.lean that lists a variable, with what it lists TIED to the program's text (the seventh form; the later family's looks); each row that meets fmt, with fmt's text TOLD by the authors' own Lean function (tested against real Go, not proved from fmt's source: count such statements apart). THE CARD IS WHAT COUNTS. Prove the row's statement (the work); the ties are given (YtjloiljiighghaaDoorTie.lean); close each card by the builder's one call (the guide's Derived/Test/ToyasCard.lean, 'card_holds'). Laid BY PROGRAM, IN A SANDBOX (cutbox-door.mjs). By AI agents, Wed Nov 11 2026. No macro, syntax, notation, axiom, sorry.
-/
import Derived.Test.YtjloiljiighghaaDoorRows
import GoSem.ClaimSeven
namespace Go.Proofs.YtjloiljiighghaaDoor
namespace Rows

/-- THE TIED CARD OF 'theseuslaw05.AddrAll'. -/
def addrAllCard : Claim7 := { stood := { row := addrAllRow, standIns := [], harness := (true, "737ebb5d12a5d2a53692908903920a45abc9910f38d8b6e73e13fa26dd372637"), looks := false }, kinds := [], alts := [], laidByText := true, laidKinds := [.data, .data, .data], laidTests := true, laidLooks := .later }
def AddrAllCardSaid : Prop := Claim7.holds Tryd.pinned (.plain (OpenSpec.ofChange addrAllSpec)) addrAllCard

/-- THE TIED CARD OF 'theseuslaw05.AddrBack'. -/
def addrBackCard : Claim7 := { stood := { row := addrBackRow, standIns := [], harness := (true, "737ebb5d12a5d2a53692908903920a45abc9910f38d8b6e73e13fa26dd372637"), looks := false }, kinds := [], alts := [], laidByText := true, laidKinds := [.data, .data, .data], laidTests := true, laidLooks := .later }
def AddrBackCardSaid : Prop := Claim7.holds Tryd.pinned (.plain (OpenSpec.ofChange addrBackSpec)) addrBackCard

/-- THE TIED CARD OF 'theseuslaw05.AddrCommon'. -/
def addrCommonCard : Claim7 := { stood := { row := addrCommonRow, standIns := [], harness := (true, "737ebb5d12a5d2a53692908903920a45abc9910f38d8b6e73e13fa26dd372637"), looks := false }, kinds := [], alts := [], laidByText := true, laidKinds := [.data, .data, .data], laidTests := true, laidLooks := .later }
def AddrCommonCardSaid : Prop := Claim7.holds Tryd.pinned (.plain (OpenSpec.ofChange addrCommonSpec)) addrCommonCard

/-- THE TIED CARD OF 'theseuslaw05.AddrParts'. -/
def addrPartsCard : Claim7 := { stood := { row := addrPartsRow, standIns := [], harness := (true, "737ebb5d12a5d2a53692908903920a45abc9910f38d8b6e73e13fa26dd372637"), looks := false }, kinds := [], alts := [], laidByText := true, laidKinds := [.data, .data, .data], laidTests := true, laidLooks := .later }
def AddrPartsCardSaid : Prop := Claim7.holds Tryd.pinned (.plain (OpenSpec.ofChange addrPartsSpec)) addrPartsCard

/-- THE TIED CARD OF 'theseuslaw05.AddrTurns'. -/
def addrTurnsCard : Claim7 := { stood := { row := addrTurnsRow, standIns := [], harness := (true, "737ebb5d12a5d2a53692908903920a45abc9910f38d8b6e73e13fa26dd372637"), looks := false }, kinds := [], alts := [], laidByText := true, laidKinds := [.data, .data, .data], laidTests := true, laidLooks := .later }
def AddrTurnsCardSaid : Prop := Claim7.holds Tryd.pinned (.plain (OpenSpec.ofChange addrTurnsSpec)) addrTurnsCard

/-- THE SECOND FORM's CARD OF 'theseuslaw05.AddrAll'. -/
def addrAllUptoCard : Claim7 := { stood := { row := addrAllUptoRow, standIns := [], harness := (true, "737ebb5d12a5d2a53692908903920a45abc9910f38d8b6e73e13fa26dd372637"), looks := false }, kinds := [], alts := [], laidByText := true, laidKinds := [.data, .data, .data], laidTests := true, laidLooks := .later }
def AddrAllUptoCardSaid : Prop := Claim7.holds Tryd.pinned (.plain (OpenSpec.upto addrAllSpec)) addrAllUptoCard

/-- THE SECOND FORM's CARD OF 'theseuslaw05.AddrBack'. -/
def addrBackUptoCard : Claim7 := { stood := { row := addrBackUptoRow, standIns := [], harness := (true, "737ebb5d12a5d2a53692908903920a45abc9910f38d8b6e73e13fa26dd372637"), looks := false }, kinds := [], alts := [], laidByText := true, laidKinds := [.data, .data, .data], laidTests := true, laidLooks := .later }
def AddrBackUptoCardSaid : Prop := Claim7.holds Tryd.pinned (.plain (OpenSpec.upto addrBackSpec)) addrBackUptoCard

/-- THE SECOND FORM's CARD OF 'theseuslaw05.AddrCommon'. -/
def addrCommonUptoCard : Claim7 := { stood := { row := addrCommonUptoRow, standIns := [], harness := (true, "737ebb5d12a5d2a53692908903920a45abc9910f38d8b6e73e13fa26dd372637"), looks := false }, kinds := [], alts := [], laidByText := true, laidKinds := [.data, .data, .data], laidTests := true, laidLooks := .later }
def AddrCommonUptoCardSaid : Prop := Claim7.holds Tryd.pinned (.plain (OpenSpec.upto addrCommonSpec)) addrCommonUptoCard

/-- THE SECOND FORM's CARD OF 'theseuslaw05.AddrParts'. -/
def addrPartsUptoCard : Claim7 := { stood := { row := addrPartsUptoRow, standIns := [], harness := (true, "737ebb5d12a5d2a53692908903920a45abc9910f38d8b6e73e13fa26dd372637"), looks := false }, kinds := [], alts := [], laidByText := true, laidKinds := [.data, .data, .data], laidTests := true, laidLooks := .later }
def AddrPartsUptoCardSaid : Prop := Claim7.holds Tryd.pinned (.plain (OpenSpec.upto addrPartsSpec)) addrPartsUptoCard

/-- THE SECOND FORM's CARD OF 'theseuslaw05.AddrTurns'. -/
def addrTurnsUptoCard : Claim7 := { stood := { row := addrTurnsUptoRow, standIns := [], harness := (true, "737ebb5d12a5d2a53692908903920a45abc9910f38d8b6e73e13fa26dd372637"), looks := false }, kinds := [], alts := [], laidByText := true, laidKinds := [.data, .data, .data], laidTests := true, laidLooks := .later }
def AddrTurnsUptoCardSaid : Prop := Claim7.holds Tryd.pinned (.plain (OpenSpec.upto addrTurnsSpec)) addrTurnsUptoCard
end Rows
end Go.Proofs.YtjloiljiighghaaDoor
