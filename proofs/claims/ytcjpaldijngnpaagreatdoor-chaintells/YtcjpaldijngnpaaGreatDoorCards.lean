/-
  DERIVED. GIVEN WITH THE SEED: THE CARDS: each row of YtcjpaldijngnpaaGreatDoorRows.lean that lists a variable, with what it lists TIED to the program's text (the seventh form; the later family's looks); each row that meets fmt, with fmt's text TOLD by the authors' own Lean function (tested against real Go, not proved from fmt's source: count such statements apart). THE CARD IS WHAT COUNTS. Prove the row's statement (the work); the ties are given (YtcjpaldijngnpaaGreatDoorTie.lean); close each card by the builder's one call (the guide's Derived/Test/ToyasCard.lean, 'card_holds'). Laid BY PROGRAM, IN A SANDBOX (cutbox-door.mjs). By AI agents, Wed Nov 11 2026. No macro, syntax, notation, axiom, sorry.
-/
import Derived.Test.YtcjpaldijngnpaaGreatDoorRows
import GoSem.ClaimSeven
namespace Go.Proofs.YtcjpaldijngnpaaGreatDoor
namespace Rows

/-- THE TIED CARD OF 'pasternlaw5.ChainTells'. -/
def chainTellsCard : Claim7 := { stood := { row := chainTellsRow, standIns := [], harness := (true, "bafee83e017d80a0e2810697e11eadd1230e4bd224d245b0676149674f6deea0"), looks := true }, kinds := [], alts := [], laidByText := true, laidKinds := [.handle], laidTests := true, laidLooks := .later }
def ChainTellsCardSaid : Prop := Claim7.holds Tryz.pinned (.plain (OpenSpec.ofChange chainTellsSpec)) chainTellsCard

/-- THE TIED CARD OF 'pasternlaw5.ChainNews'. -/
def chainNewsCard : Claim7 := { stood := { row := chainNewsRow, standIns := [], harness := (true, "bafee83e017d80a0e2810697e11eadd1230e4bd224d245b0676149674f6deea0"), looks := true }, kinds := [], alts := [], laidByText := true, laidKinds := [.handle], laidTests := true, laidLooks := .later }
def ChainNewsCardSaid : Prop := Claim7.holds Tryz.pinned (.plain (OpenSpec.ofChange chainNewsSpec)) chainNewsCard

/-- THE TIED CARD OF 'pasternlaw5.ChainParts'. -/
def chainPartsCard : Claim7 := { stood := { row := chainPartsRow, standIns := [], harness := (true, "bafee83e017d80a0e2810697e11eadd1230e4bd224d245b0676149674f6deea0"), looks := true }, kinds := [], alts := [], laidByText := true, laidKinds := [.handle], laidTests := true, laidLooks := .later }
def ChainPartsCardSaid : Prop := Claim7.holds Tryz.pinned (.plain (OpenSpec.ofChange chainPartsSpec)) chainPartsCard

/-- THE SECOND FORM's CARD OF 'pasternlaw5.ChainTells'. -/
def chainTellsUptoCard : Claim7 := { stood := { row := chainTellsUptoRow, standIns := [], harness := (true, "bafee83e017d80a0e2810697e11eadd1230e4bd224d245b0676149674f6deea0"), looks := true }, kinds := [], alts := [], laidByText := true, laidKinds := [.handle], laidTests := true, laidLooks := .later }
def ChainTellsUptoCardSaid : Prop := Claim7.holds Tryz.pinned (.plain (OpenSpec.upto chainTellsSpec)) chainTellsUptoCard

/-- THE SECOND FORM's CARD OF 'pasternlaw5.ChainNews'. -/
def chainNewsUptoCard : Claim7 := { stood := { row := chainNewsUptoRow, standIns := [], harness := (true, "bafee83e017d80a0e2810697e11eadd1230e4bd224d245b0676149674f6deea0"), looks := true }, kinds := [], alts := [], laidByText := true, laidKinds := [.handle], laidTests := true, laidLooks := .later }
def ChainNewsUptoCardSaid : Prop := Claim7.holds Tryz.pinned (.plain (OpenSpec.upto chainNewsSpec)) chainNewsUptoCard

/-- THE SECOND FORM's CARD OF 'pasternlaw5.ChainParts'. -/
def chainPartsUptoCard : Claim7 := { stood := { row := chainPartsUptoRow, standIns := [], harness := (true, "bafee83e017d80a0e2810697e11eadd1230e4bd224d245b0676149674f6deea0"), looks := true }, kinds := [], alts := [], laidByText := true, laidKinds := [.handle], laidTests := true, laidLooks := .later }
def ChainPartsUptoCardSaid : Prop := Claim7.holds Tryz.pinned (.plain (OpenSpec.upto chainPartsSpec)) chainPartsUptoCard
end Rows
end Go.Proofs.YtcjpaldijngnpaaGreatDoor
