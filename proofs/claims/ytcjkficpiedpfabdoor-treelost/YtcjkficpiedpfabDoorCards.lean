/-
  DERIVED. GIVEN WITH THE SEED: THE CARDS: each row of YtcjkficpiedpfabDoorRows.lean that lists a variable, with what it lists TIED to the program's text (the seventh form; the later family's looks); each row that meets fmt, with fmt's text TOLD by the authors' own Lean function (tested against real Go, not proved from fmt's source: count such statements apart). THE CARD IS WHAT COUNTS. Prove the row's statement (the work); the ties are given (YtcjkficpiedpfabDoorTie.lean); close each card by the builder's one call (the guide's Derived/Test/ToyasCard.lean, 'card_holds'). Laid BY PROGRAM, IN A SANDBOX (cutbox-door.mjs). By AI agents, Wed Nov 11 2026. No macro, syntax, notation, axiom, sorry.
-/
import Derived.Test.YtcjkficpiedpfabDoorRows
import GoSem.ClaimSeven
namespace Go.Proofs.YtcjkficpiedpfabDoor
namespace Rows

/-- THE TIED CARD OF 'becketlaw04.TreeMore'. -/
def treeMoreCard : Claim7 := { stood := { row := treeMoreRow, standIns := [], harness := (true, "b41f4a52eaa70c758157e27432c850b8ff1d7d7e627f82946b7e842adee87d7c"), looks := true }, kinds := [], alts := [], laidByText := true, laidKinds := [.handle], laidTests := true, laidLooks := .later }
def TreeMoreCardSaid : Prop := Claim7.holds Tryd.pinned (.plain (OpenSpec.ofChange treeMoreSpec)) treeMoreCard

/-- THE TIED CARD OF 'becketlaw04.TreeLost'. -/
def treeLostCard : Claim7 := { stood := { row := treeLostRow, standIns := [], harness := (true, "b41f4a52eaa70c758157e27432c850b8ff1d7d7e627f82946b7e842adee87d7c"), looks := true }, kinds := [], alts := [], laidByText := true, laidKinds := [.handle], laidTests := true, laidLooks := .later }
def TreeLostCardSaid : Prop := Claim7.holds Tryd.pinned (.plain (OpenSpec.ofChange treeLostSpec)) treeLostCard

/-- THE SECOND FORM's CARD OF 'becketlaw04.TreeMore'. -/
def treeMoreUptoCard : Claim7 := { stood := { row := treeMoreUptoRow, standIns := [], harness := (true, "b41f4a52eaa70c758157e27432c850b8ff1d7d7e627f82946b7e842adee87d7c"), looks := true }, kinds := [], alts := [], laidByText := true, laidKinds := [.handle], laidTests := true, laidLooks := .later }
def TreeMoreUptoCardSaid : Prop := Claim7.holds Tryd.pinned (.plain (OpenSpec.upto treeMoreSpec)) treeMoreUptoCard

/-- THE SECOND FORM's CARD OF 'becketlaw04.TreeLost'. -/
def treeLostUptoCard : Claim7 := { stood := { row := treeLostUptoRow, standIns := [], harness := (true, "b41f4a52eaa70c758157e27432c850b8ff1d7d7e627f82946b7e842adee87d7c"), looks := true }, kinds := [], alts := [], laidByText := true, laidKinds := [.handle], laidTests := true, laidLooks := .later }
def TreeLostUptoCardSaid : Prop := Claim7.holds Tryd.pinned (.plain (OpenSpec.upto treeLostSpec)) treeLostUptoCard
end Rows
end Go.Proofs.YtcjkficpiedpfabDoor
