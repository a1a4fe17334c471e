/-
  DERIVED. GIVEN WITH THE SEED: THE CARDS: each row of YtjokaaekliapmaaDoorRows.lean that lists a variable, with what it lists TIED to the program's text (the seventh form; the later family's looks); each row that meets fmt, with fmt's text TOLD by the authors' own Lean function (tested against real Go, not proved from fmt's source: count such statements apart). THE CARD IS WHAT COUNTS. Prove the row's statement (the work); the ties are given (YtjokaaekliapmaaDoorTie.lean); close each card by the builder's one call (the guide's Derived/Test/ToyasCard.lean, 'card_holds'). Laid BY PROGRAM, IN A SANDBOX (cutbox-door.mjs). By AI agents, Wed Nov 11 2026. No macro, syntax, notation, axiom, sorry.
-/
import Derived.Test.YtjokaaekliapmaaDoorRows
import GoSem.ClaimSeven
namespace Go.Proofs.YtjokaaekliapmaaDoor
namespace Rows

/-- THE TIED CARD OF 'symbolonlaw16.SectorTells'. -/
def sectorTellsCard : Claim7 := { stood := { row := sectorTellsRow, standIns := [], harness := (true, "ce1bbcfada8b917e6c9ba30595a7a34d0d59291ff746f6aecfde787481998eb8"), looks := false }, kinds := [], alts := [], laidByText := true, laidKinds := [.data], laidTests := true, laidLooks := .later }
def SectorTellsCardSaid : Prop := Claim7.holds Tryd.pinned (.plain (OpenSpec.ofChange sectorTellsSpec)) sectorTellsCard

/-- THE TIED CARD OF 'symbolonlaw16.SectorBack'. -/
def sectorBackCard : Claim7 := { stood := { row := sectorBackRow, standIns := [], harness := (true, "ce1bbcfada8b917e6c9ba30595a7a34d0d59291ff746f6aecfde787481998eb8"), looks := false }, kinds := [], alts := [], laidByText := true, laidKinds := [.data], laidTests := true, laidLooks := .later }
def SectorBackCardSaid : Prop := Claim7.holds Tryd.pinned (.plain (OpenSpec.ofChange sectorBackSpec)) sectorBackCard

/-- THE TIED CARD OF 'symbolonlaw16.SectorApart'. -/
def sectorApartCard : Claim7 := { stood := { row := sectorApartRow, standIns := [], harness := (true, "ce1bbcfada8b917e6c9ba30595a7a34d0d59291ff746f6aecfde787481998eb8"), looks := false }, kinds := [], alts := [], laidByText := true, laidKinds := [.data], laidTests := true, laidLooks := .later }
def SectorApartCardSaid : Prop := Claim7.holds Tryd.pinned (.plain (OpenSpec.ofChange sectorApartSpec)) sectorApartCard

/-- THE TIED CARD OF 'symbolonlaw16.SectorNoughts'. -/
def sectorNoughtsCard : Claim7 := { stood := { row := sectorNoughtsRow, standIns := [], harness := (true, "ce1bbcfada8b917e6c9ba30595a7a34d0d59291ff746f6aecfde787481998eb8"), looks := false }, kinds := [], alts := [], laidByText := true, laidKinds := [.data], laidTests := true, laidLooks := .later }
def SectorNoughtsCardSaid : Prop := Claim7.holds Tryd.pinned (.plain (OpenSpec.ofChange sectorNoughtsSpec)) sectorNoughtsCard

/-- THE TIED CARD OF 'symbolonlaw16.SectorFields'. -/
def sectorFieldsCard : Claim7 := { stood := { row := sectorFieldsRow, standIns := [], harness := (true, "ce1bbcfada8b917e6c9ba30595a7a34d0d59291ff746f6aecfde787481998eb8"), looks := false }, kinds := [], alts := [], laidByText := true, laidKinds := [.data], laidTests := true, laidLooks := .later }
def SectorFieldsCardSaid : Prop := Claim7.holds Tryd.pinned (.plain (OpenSpec.ofChange sectorFieldsSpec)) sectorFieldsCard

/-- THE TIED CARD OF 'symbolonlaw16.SectorSorts'. -/
def sectorSortsCard : Claim7 := { stood := { row := sectorSortsRow, standIns := [], harness := (true, "ce1bbcfada8b917e6c9ba30595a7a34d0d59291ff746f6aecfde787481998eb8"), looks := false }, kinds := [], alts := [], laidByText := true, laidKinds := [.data], laidTests := true, laidLooks := .later }
def SectorSortsCardSaid : Prop := Claim7.holds Tryd.pinned (.plain (OpenSpec.ofChange sectorSortsSpec)) sectorSortsCard

/-- THE SECOND FORM's CARD OF 'symbolonlaw16.SectorTells'. -/
def sectorTellsUptoCard : Claim7 := { stood := { row := sectorTellsUptoRow, standIns := [], harness := (true, "ce1bbcfada8b917e6c9ba30595a7a34d0d59291ff746f6aecfde787481998eb8"), looks := false }, kinds := [], alts := [], laidByText := true, laidKinds := [.data], laidTests := true, laidLooks := .later }
def SectorTellsUptoCardSaid : Prop := Claim7.holds Tryd.pinned (.plain (OpenSpec.upto sectorTellsSpec)) sectorTellsUptoCard

/-- THE SECOND FORM's CARD OF 'symbolonlaw16.SectorBack'. -/
def sectorBackUptoCard : Claim7 := { stood := { row := sectorBackUptoRow, standIns := [], harness := (true, "ce1bbcfada8b917e6c9ba30595a7a34d0d59291ff746f6aecfde787481998eb8"), looks := false }, kinds := [], alts := [], laidByText := true, laidKinds := [.data], laidTests := true, laidLooks := .later }
def SectorBackUptoCardSaid : Prop := Claim7.holds Tryd.pinned (.plain (OpenSpec.upto sectorBackSpec)) sectorBackUptoCard

/-- THE SECOND FORM's CARD OF 'symbolonlaw16.SectorApart'. -/
def sectorApartUptoCard : Claim7 := { stood := { row := sectorApartUptoRow, standIns := [], harness := (true, "ce1bbcfada8b917e6c9ba30595a7a34d0d59291ff746f6aecfde787481998eb8"), looks := false }, kinds := [], alts := [], laidByText := true, laidKinds := [.data], laidTests := true, laidLooks := .later }
def SectorApartUptoCardSaid : Prop := Claim7.holds Tryd.pinned (.plain (OpenSpec.upto sectorApartSpec)) sectorApartUptoCard

/-- THE SECOND FORM's CARD OF 'symbolonlaw16.SectorNoughts'. -/
def sectorNoughtsUptoCard : Claim7 := { stood := { row := sectorNoughtsUptoRow, standIns := [], harness := (true, "ce1bbcfada8b917e6c9ba30595a7a34d0d59291ff746f6aecfde787481998eb8"), looks := false }, kinds := [], alts := [], laidByText := true, laidKinds := [.data], laidTests := true, laidLooks := .later }
def SectorNoughtsUptoCardSaid : Prop := Claim7.holds Tryd.pinned (.plain (OpenSpec.upto sectorNoughtsSpec)) sectorNoughtsUptoCard

/-- THE SECOND FORM's CARD OF 'symbolonlaw16.SectorFields'. -/
def sectorFieldsUptoCard : Claim7 := { stood := { row := sectorFieldsUptoRow, standIns := [], harness := (true, "ce1bbcfada8b917e6c9ba30595a7a34d0d59291ff746f6aecfde787481998eb8"), looks := false }, kinds := [], alts := [], laidByText := true, laidKinds := [.data], laidTests := true, laidLooks := .later }
def SectorFieldsUptoCardSaid : Prop := Claim7.holds Tryd.pinned (.plain (OpenSpec.upto sectorFieldsSpec)) sectorFieldsUptoCard

/-- THE SECOND FORM's CARD OF 'symbolonlaw16.SectorSorts'. -/
def sectorSortsUptoCard : Claim7 := { stood := { row := sectorSortsUptoRow, standIns := [], harness := (true, "ce1bbcfada8b917e6c9ba30595a7a34d0d59291ff746f6aecfde787481998eb8"), looks := false }, kinds := [], alts := [], laidByText := true, laidKinds := [.data], laidTests := true, laidLooks := .later }
def SectorSortsUptoCardSaid : Prop := Claim7.holds Tryd.pinned (.plain (OpenSpec.upto sectorSortsSpec)) sectorSortsUptoCard
end Rows
end Go.Proofs.YtjokaaekliapmaaDoor
