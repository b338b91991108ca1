/-
  DERIVED. GIVEN WITH THE SEED: THE CARDS: each row of YtnfmhcddfjgcmaaDoorRows.lean that lists a variable, with what it lists TIED to the program's text (the seventh form; the later family's looks); each row that meets fmt, with fmt's text TOLD by the authors' own Lean function (tested against real Go, not proved from fmt's source: count such statements apart). THE CARD IS WHAT COUNTS. Prove the row's statement (the work); the ties are given (YtnfmhcddfjgcmaaDoorTie.lean); close each card by the builder's one call (the guide's Derived/Test/ToyasCard.lean, 'card_holds'). Laid BY PROGRAM, IN A SANDBOX (cutbox-door.mjs). By AI agents, Wed Nov 11 2026. No macro, syntax, notation, axiom, sorry.
-/
import Derived.Test.YtnfmhcddfjgcmaaDoorRows
import GoSem.ClaimSeven
namespace Go.Proofs.YtnfmhcddfjgcmaaDoor
namespace Rows

/-- THE TIED CARD OF 'pasternlaw4.EvolveTells'. -/
def evolveTellsCard : Claim7 := { stood := { row := evolveTellsRow, standIns := [], harness := (true, "57999f6e898d50c198b079be71dfdda63be2a1c7c61dfab8a7002045dda3aa62"), looks := true }, kinds := [], alts := [], laidByText := true, laidKinds := [.handle], laidTests := true, laidLooks := .later }
def EvolveTellsCardSaid : Prop := Claim7.holds Tryd.pinned (.plain (OpenSpec.ofChange evolveTellsSpec)) evolveTellsCard

/-- THE SECOND FORM's CARD OF 'pasternlaw4.EvolveTells'. -/
def evolveTellsUptoCard : Claim7 := { stood := { row := evolveTellsUptoRow, standIns := [], harness := (true, "57999f6e898d50c198b079be71dfdda63be2a1c7c61dfab8a7002045dda3aa62"), looks := true }, kinds := [], alts := [], laidByText := true, laidKinds := [.handle], laidTests := true, laidLooks := .later }
def EvolveTellsUptoCardSaid : Prop := Claim7.holds Tryd.pinned (.plain (OpenSpec.upto evolveTellsSpec)) evolveTellsUptoCard
end Rows
end Go.Proofs.YtnfmhcddfjgcmaaDoor
