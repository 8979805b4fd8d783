/-
  DERIVED. GIVEN WITH THE SEED: THE CARDS: each row of YtpmmjkiclngpmaaGreatDoorRows.lean that lists a variable, with what it lists TIED to the program's text (the seventh form; the later family's looks); each row that meets fmt, with fmt's text TOLD by the authors' own Lean function (tested against real Go, not proved from fmt's source: count such statements apart). THE CARD IS WHAT COUNTS. Prove the row's statement (the work); the ties are given (YtpmmjkiclngpmaaGreatDoorTie.lean); close each card by the builder's one call (the guide's Derived/Test/ToyasCard.lean, 'card_holds'). Laid BY PROGRAM, IN A SANDBOX (cutbox-door.mjs). By AI agents, Wed Nov 11 2026. No macro, syntax, notation, axiom, sorry.
-/
import Derived.Test.YtpmmjkiclngpmaaGreatDoorRows
import GoSem.ClaimSeven
namespace Go.Proofs.YtpmmjkiclngpmaaGreatDoor
namespace Rows

/-- THE TIED CARD OF 'symcutlaw.Told'. -/
def toldCard : Claim7 := { stood := { row := toldRow, standIns := [], harness := (true, "1de3e680e1b03f31ac14ff7c6c13e29b120fb35987980ce058d85cad9642596a"), looks := true }, kinds := [], alts := [], laidByText := true, laidKinds := [.data, .data, .data, .sentinel, .sentinel], laidTests := true, laidLooks := .later }
def ToldCardSaid : Prop := Claim7.holds Tryz.pinned (.plain (OpenSpec.ofChange toldSpec)) toldCard

/-- THE TIED CARD OF 'symcutlaw.Ran'. -/
def ranCard : Claim7 := { stood := { row := ranRow, standIns := [], harness := (true, "1de3e680e1b03f31ac14ff7c6c13e29b120fb35987980ce058d85cad9642596a"), looks := true }, kinds := [], alts := [], laidByText := true, laidKinds := [.data, .data, .data, .sentinel, .sentinel], laidTests := true, laidLooks := .later }
def RanCardSaid : Prop := Claim7.holds Tryz.pinned (.plain (OpenSpec.ofChange ranSpec)) ranCard

/-- THE TIED CARD OF 'symcutlaw.Cut'. -/
def cutCard : Claim7 := { stood := { row := cutRow, standIns := [], harness := (true, "1de3e680e1b03f31ac14ff7c6c13e29b120fb35987980ce058d85cad9642596a"), looks := true }, kinds := [], alts := [], laidByText := true, laidKinds := [.data, .data, .data, .sentinel, .sentinel], laidTests := true, laidLooks := .later }
def CutCardSaid : Prop := Claim7.holds Tryz.pinned (.plain (OpenSpec.ofChange cutSpec)) cutCard

/-- THE TIED CARD OF 'symcutlaw.All'. -/
def allCard : Claim7 := { stood := { row := allRow, standIns := [], harness := (true, "1de3e680e1b03f31ac14ff7c6c13e29b120fb35987980ce058d85cad9642596a"), looks := true }, kinds := [], alts := [], laidByText := true, laidKinds := [.data, .data, .data, .sentinel, .sentinel], laidTests := true, laidLooks := .later }
def AllCardSaid : Prop := Claim7.holds Tryz.pinned (.plain (OpenSpec.ofChange allSpec)) allCard

/-- THE TIED CARD OF 'symcutkeep.Spoilt'. -/
def spoiltCard : Claim7 := { stood := { row := spoiltRow, standIns := [], harness := (true, "1de3e680e1b03f31ac14ff7c6c13e29b120fb35987980ce058d85cad9642596a"), looks := true }, kinds := [], alts := [], laidByText := true, laidKinds := [.data, .data, .data, .sentinel, .sentinel], laidTests := true, laidLooks := .later }
def SpoiltCardSaid : Prop := Claim7.holds Tryz.pinned (.plain (OpenSpec.ofChange spoiltSpec)) spoiltCard

/-- THE TIED CARD OF 'symcutkeep.Valued'. -/
def valuedCard : Claim7 := { stood := { row := valuedRow, standIns := [], harness := (true, "1de3e680e1b03f31ac14ff7c6c13e29b120fb35987980ce058d85cad9642596a"), looks := true }, kinds := [], alts := [], laidByText := true, laidKinds := [.data, .data, .data, .sentinel, .sentinel], laidTests := true, laidLooks := .later }
def ValuedCardSaid : Prop := Claim7.holds Tryz.pinned (.plain (OpenSpec.ofChange valuedSpec)) valuedCard

/-- THE TIED CARD OF 'symcutkeep.Called'. -/
def calledCard : Claim7 := { stood := { row := calledRow, standIns := [], harness := (true, "1de3e680e1b03f31ac14ff7c6c13e29b120fb35987980ce058d85cad9642596a"), looks := true }, kinds := [], alts := [], laidByText := true, laidKinds := [.data, .data, .data, .sentinel, .sentinel], laidTests := true, laidLooks := .later }
def CalledCardSaid : Prop := Claim7.holds Tryz.pinned (.plain (OpenSpec.ofChange calledSpec)) calledCard

/-- THE TIED CARD OF 'symcutkeep.Spared'. -/
def sparedCard : Claim7 := { stood := { row := sparedRow, standIns := [], harness := (true, "1de3e680e1b03f31ac14ff7c6c13e29b120fb35987980ce058d85cad9642596a"), looks := true }, kinds := [], alts := [], laidByText := true, laidKinds := [.data, .data, .data, .sentinel, .sentinel], laidTests := true, laidLooks := .later }
def SparedCardSaid : Prop := Claim7.holds Tryz.pinned (.plain (OpenSpec.ofChange sparedSpec)) sparedCard

/-- THE TIED CARD OF 'symcutkeep.Fresh'. -/
def freshCard : Claim7 := { stood := { row := freshRow, standIns := [], harness := (true, "1de3e680e1b03f31ac14ff7c6c13e29b120fb35987980ce058d85cad9642596a"), looks := true }, kinds := [], alts := [], laidByText := true, laidKinds := [.data, .data, .data, .sentinel, .sentinel], laidTests := true, laidLooks := .later }
def FreshCardSaid : Prop := Claim7.holds Tryz.pinned (.plain (OpenSpec.ofChange freshSpec)) freshCard

/-- THE SECOND FORM's CARD OF 'symcutlaw.Told'. -/
def toldUptoCard : Claim7 := { stood := { row := toldUptoRow, standIns := [], harness := (true, "1de3e680e1b03f31ac14ff7c6c13e29b120fb35987980ce058d85cad9642596a"), looks := true }, kinds := [], alts := [], laidByText := true, laidKinds := [.data, .data, .data, .sentinel, .sentinel], laidTests := true, laidLooks := .later }
def ToldUptoCardSaid : Prop := Claim7.holds Tryz.pinned (.plain (OpenSpec.upto toldSpec)) toldUptoCard

/-- THE SECOND FORM's CARD OF 'symcutlaw.Ran'. -/
def ranUptoCard : Claim7 := { stood := { row := ranUptoRow, standIns := [], harness := (true, "1de3e680e1b03f31ac14ff7c6c13e29b120fb35987980ce058d85cad9642596a"), looks := true }, kinds := [], alts := [], laidByText := true, laidKinds := [.data, .data, .data, .sentinel, .sentinel], laidTests := true, laidLooks := .later }
def RanUptoCardSaid : Prop := Claim7.holds Tryz.pinned (.plain (OpenSpec.upto ranSpec)) ranUptoCard

/-- THE SECOND FORM's CARD OF 'symcutlaw.Cut'. -/
def cutUptoCard : Claim7 := { stood := { row := cutUptoRow, standIns := [], harness := (true, "1de3e680e1b03f31ac14ff7c6c13e29b120fb35987980ce058d85cad9642596a"), looks := true }, kinds := [], alts := [], laidByText := true, laidKinds := [.data, .data, .data, .sentinel, .sentinel], laidTests := true, laidLooks := .later }
def CutUptoCardSaid : Prop := Claim7.holds Tryz.pinned (.plain (OpenSpec.upto cutSpec)) cutUptoCard

/-- THE SECOND FORM's CARD OF 'symcutlaw.All'. -/
def allUptoCard : Claim7 := { stood := { row := allUptoRow, standIns := [], harness := (true, "1de3e680e1b03f31ac14ff7c6c13e29b120fb35987980ce058d85cad9642596a"), looks := true }, kinds := [], alts := [], laidByText := true, laidKinds := [.data, .data, .data, .sentinel, .sentinel], laidTests := true, laidLooks := .later }
def AllUptoCardSaid : Prop := Claim7.holds Tryz.pinned (.plain (OpenSpec.upto allSpec)) allUptoCard

/-- THE SECOND FORM's CARD OF 'symcutkeep.Spoilt'. -/
def spoiltUptoCard : Claim7 := { stood := { row := spoiltUptoRow, standIns := [], harness := (true, "1de3e680e1b03f31ac14ff7c6c13e29b120fb35987980ce058d85cad9642596a"), looks := true }, kinds := [], alts := [], laidByText := true, laidKinds := [.data, .data, .data, .sentinel, .sentinel], laidTests := true, laidLooks := .later }
def SpoiltUptoCardSaid : Prop := Claim7.holds Tryz.pinned (.plain (OpenSpec.upto spoiltSpec)) spoiltUptoCard

/-- THE SECOND FORM's CARD OF 'symcutkeep.Valued'. -/
def valuedUptoCard : Claim7 := { stood := { row := valuedUptoRow, standIns := [], harness := (true, "1de3e680e1b03f31ac14ff7c6c13e29b120fb35987980ce058d85cad9642596a"), looks := true }, kinds := [], alts := [], laidByText := true, laidKinds := [.data, .data, .data, .sentinel, .sentinel], laidTests := true, laidLooks := .later }
def ValuedUptoCardSaid : Prop := Claim7.holds Tryz.pinned (.plain (OpenSpec.upto valuedSpec)) valuedUptoCard

/-- THE SECOND FORM's CARD OF 'symcutkeep.Called'. -/
def calledUptoCard : Claim7 := { stood := { row := calledUptoRow, standIns := [], harness := (true, "1de3e680e1b03f31ac14ff7c6c13e29b120fb35987980ce058d85cad9642596a"), looks := true }, kinds := [], alts := [], laidByText := true, laidKinds := [.data, .data, .data, .sentinel, .sentinel], laidTests := true, laidLooks := .later }
def CalledUptoCardSaid : Prop := Claim7.holds Tryz.pinned (.plain (OpenSpec.upto calledSpec)) calledUptoCard

/-- THE SECOND FORM's CARD OF 'symcutkeep.Spared'. -/
def sparedUptoCard : Claim7 := { stood := { row := sparedUptoRow, standIns := [], harness := (true, "1de3e680e1b03f31ac14ff7c6c13e29b120fb35987980ce058d85cad9642596a"), looks := true }, kinds := [], alts := [], laidByText := true, laidKinds := [.data, .data, .data, .sentinel, .sentinel], laidTests := true, laidLooks := .later }
def SparedUptoCardSaid : Prop := Claim7.holds Tryz.pinned (.plain (OpenSpec.upto sparedSpec)) sparedUptoCard

/-- THE SECOND FORM's CARD OF 'symcutkeep.Fresh'. -/
def freshUptoCard : Claim7 := { stood := { row := freshUptoRow, standIns := [], harness := (true, "1de3e680e1b03f31ac14ff7c6c13e29b120fb35987980ce058d85cad9642596a"), looks := true }, kinds := [], alts := [], laidByText := true, laidKinds := [.data, .data, .data, .sentinel, .sentinel], laidTests := true, laidLooks := .later }
def FreshUptoCardSaid : Prop := Claim7.holds Tryz.pinned (.plain (OpenSpec.upto freshSpec)) freshUptoCard
end Rows
end Go.Proofs.YtpmmjkiclngpmaaGreatDoor
