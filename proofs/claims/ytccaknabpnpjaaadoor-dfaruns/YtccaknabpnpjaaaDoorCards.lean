/-
  DERIVED. GIVEN WITH THE SEED: THE CARDS: each row of YtccaknabpnpjaaaDoorRows.lean that lists a variable, with what it lists TIED to the program's text (the seventh form; the later family's looks); each row that meets fmt, with fmt's text TOLD by the authors' own Lean function (tested against real Go, not proved from fmt's source: count such statements apart). THE CARD IS WHAT COUNTS. Prove the row's statement (the work); the ties are given (YtccaknabpnpjaaaDoorTie.lean); close each card by the builder's one call (the guide's Derived/Test/ToyasCard.lean, 'card_holds'). Laid BY PROGRAM, IN A SANDBOX (cutbox-door.mjs). By AI agents, Wed Nov 11 2026. No macro, syntax, notation, axiom, sorry.
-/
import Derived.Test.YtccaknabpnpjaaaDoorRows
import GoSem.ClaimSeven
namespace Go.Proofs.YtccaknabpnpjaaaDoor
namespace Rows

/-- THE TIED CARD OF 'reedpenlaw07.DfaRuns'. -/
def dfaRunsCard : Claim7 := { stood := { row := dfaRunsRow, standIns := [], harness := (true, "0c19ba5fea5ae43cd89342e5b709bdf257fe2e14a7e81de4c81040e1044a9736"), looks := false }, kinds := [], alts := [], laidByText := true, laidKinds := [.data, .data, .data, .data, .pinned], laidTests := true, laidLooks := .later }
def DfaRunsCardSaid : Prop := Claim7.holds Tryd.pinned (.plain (OpenSpec.ofChange dfaRunsSpec)) dfaRunsCard

/-- THE TIED CARD OF 'reedpenlaw07.DfaPrefix'. -/
def dfaPrefixCard : Claim7 := { stood := { row := dfaPrefixRow, standIns := [], harness := (true, "0c19ba5fea5ae43cd89342e5b709bdf257fe2e14a7e81de4c81040e1044a9736"), looks := false }, kinds := [], alts := [], laidByText := true, laidKinds := [.data, .data, .data, .data, .pinned], laidTests := true, laidLooks := .later }
def DfaPrefixCardSaid : Prop := Claim7.holds Tryd.pinned (.plain (OpenSpec.ofChange dfaPrefixSpec)) dfaPrefixCard

/-- THE SECOND FORM's CARD OF 'reedpenlaw07.DfaRuns'. -/
def dfaRunsUptoCard : Claim7 := { stood := { row := dfaRunsUptoRow, standIns := [], harness := (true, "0c19ba5fea5ae43cd89342e5b709bdf257fe2e14a7e81de4c81040e1044a9736"), looks := false }, kinds := [], alts := [], laidByText := true, laidKinds := [.data, .data, .data, .data, .pinned], laidTests := true, laidLooks := .later }
def DfaRunsUptoCardSaid : Prop := Claim7.holds Tryd.pinned (.plain (OpenSpec.upto dfaRunsSpec)) dfaRunsUptoCard

/-- THE SECOND FORM's CARD OF 'reedpenlaw07.DfaPrefix'. -/
def dfaPrefixUptoCard : Claim7 := { stood := { row := dfaPrefixUptoRow, standIns := [], harness := (true, "0c19ba5fea5ae43cd89342e5b709bdf257fe2e14a7e81de4c81040e1044a9736"), looks := false }, kinds := [], alts := [], laidByText := true, laidKinds := [.data, .data, .data, .data, .pinned], laidTests := true, laidLooks := .later }
def DfaPrefixUptoCardSaid : Prop := Claim7.holds Tryd.pinned (.plain (OpenSpec.upto dfaPrefixSpec)) dfaPrefixUptoCard
end Rows
end Go.Proofs.YtccaknabpnpjaaaDoor
