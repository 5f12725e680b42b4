/-
  DERIVED. GIVEN WITH THE SEED: THE CARDS: each row of YtccaknabpnpjaaaGreatDoorRows.lean that lists a variable, with what it lists TIED to the program's text (the seventh form; the later family's looks); each row that meets fmt, with fmt's text TOLD by the authors' own Lean function (tested against real Go, not proved from fmt's source: count such statements apart). THE CARD IS WHAT COUNTS. Prove the row's statement (the work); the ties are given (YtccaknabpnpjaaaGreatDoorTie.lean); close each card by the builder's one call (the guide's Derived/Test/ToyasCard.lean, 'card_holds'). Laid BY PROGRAM, IN A SANDBOX (cutbox-door.mjs). By AI agents, Wed Nov 11 2026. No macro, syntax, notation, axiom, sorry.
-/
import Derived.Test.YtccaknabpnpjaaaGreatDoorRows
import GoSem.ClaimSeven
namespace Go.Proofs.YtccaknabpnpjaaaGreatDoor
namespace Rows

/-- THE TIED CARD OF 'reedpenlaw07.DfaBuilds'. -/
def dfaBuildsCard : Claim7 := { stood := { row := dfaBuildsRow, standIns := [], harness := (true, "6e1f8b0b3faa24d30b6c34fcd858bdbf0f914c0ff58fad7d4d19016fbc7d0047"), looks := false }, kinds := [], alts := [], laidByText := true, laidKinds := [.data, .data, .data, .data, .pinned], laidTests := true, laidLooks := .later }
def DfaBuildsCardSaid : Prop := Claim7.holds Tryz.pinned (.plain (OpenSpec.ofChange dfaBuildsSpec)) dfaBuildsCard

/-- THE TIED CARD OF 'reedpenlaw07.DfaMatches'. -/
def dfaMatchesCard : Claim7 := { stood := { row := dfaMatchesRow, standIns := [], harness := (true, "6e1f8b0b3faa24d30b6c34fcd858bdbf0f914c0ff58fad7d4d19016fbc7d0047"), looks := false }, kinds := [], alts := [], laidByText := true, laidKinds := [.data, .data, .data, .data, .pinned], laidTests := true, laidLooks := .later }
def DfaMatchesCardSaid : Prop := Claim7.holds Tryz.pinned (.plain (OpenSpec.ofChange dfaMatchesSpec)) dfaMatchesCard

/-- THE SECOND FORM's CARD OF 'reedpenlaw07.DfaBuilds'. -/
def dfaBuildsUptoCard : Claim7 := { stood := { row := dfaBuildsUptoRow, standIns := [], harness := (true, "6e1f8b0b3faa24d30b6c34fcd858bdbf0f914c0ff58fad7d4d19016fbc7d0047"), looks := false }, kinds := [], alts := [], laidByText := true, laidKinds := [.data, .data, .data, .data, .pinned], laidTests := true, laidLooks := .later }
def DfaBuildsUptoCardSaid : Prop := Claim7.holds Tryz.pinned (.plain (OpenSpec.upto dfaBuildsSpec)) dfaBuildsUptoCard

/-- THE SECOND FORM's CARD OF 'reedpenlaw07.DfaMatches'. -/
def dfaMatchesUptoCard : Claim7 := { stood := { row := dfaMatchesUptoRow, standIns := [], harness := (true, "6e1f8b0b3faa24d30b6c34fcd858bdbf0f914c0ff58fad7d4d19016fbc7d0047"), looks := false }, kinds := [], alts := [], laidByText := true, laidKinds := [.data, .data, .data, .data, .pinned], laidTests := true, laidLooks := .later }
def DfaMatchesUptoCardSaid : Prop := Claim7.holds Tryz.pinned (.plain (OpenSpec.upto dfaMatchesSpec)) dfaMatchesUptoCard
end Rows
end Go.Proofs.YtccaknabpnpjaaaGreatDoor
