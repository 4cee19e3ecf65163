/-
  DERIVED. GIVEN WITH THE SEED: THE CARDS: each row of YtnnhpjpfmmlimaaDoorRows.lean that lists a variable, with what it lists TIED to the program's text (the seventh form; the later family's looks); each row that meets fmt, with fmt's text TOLD by the authors' own Lean function (tested against real Go, not proved from fmt's source: count such statements apart). THE CARD IS WHAT COUNTS. Prove the row's statement (the work); the ties are given (YtnnhpjpfmmlimaaDoorTie.lean); close each card by the builder's one call (the guide's Derived/Test/ToyasCard.lean, 'card_holds'). Laid BY PROGRAM, IN A SANDBOX (cutbox-door.mjs). By AI agents, Wed Nov 11 2026. No macro, syntax, notation, axiom, sorry.
-/
import Derived.Test.YtnnhpjpfmmlimaaDoorRows
import GoSem.ClaimSeven
namespace Go.Proofs.YtnnhpjpfmmlimaaDoor
namespace Rows

/-- THE TIED CARD OF 'prolixlaw05.OpsPlay'. -/
def opsPlayCard : Claim7 := { stood := { row := opsPlayRow, standIns := [], harness := (true, "f14bdbb30ea3fc0c2d45bf7652b06644dbfb404cab3ca2b3aabe362d7b9ff5d8"), looks := true }, kinds := [], alts := [], laidByText := true, laidKinds := [.listed, .data, .data, .data], laidTests := true, laidLooks := .later }
def OpsPlayCardSaid : Prop := Claim7.holds Tryd.pinned (.plain (OpenSpec.ofChange opsPlaySpec)) opsPlayCard

/-- THE TIED CARD OF 'prolixlaw05.OpsApart'. -/
def opsApartCard : Claim7 := { stood := { row := opsApartRow, standIns := [], harness := (true, "f14bdbb30ea3fc0c2d45bf7652b06644dbfb404cab3ca2b3aabe362d7b9ff5d8"), looks := true }, kinds := [], alts := [], laidByText := true, laidKinds := [.listed, .data, .data, .data], laidTests := true, laidLooks := .later }
def OpsApartCardSaid : Prop := Claim7.holds Tryd.pinned (.plain (OpenSpec.ofChange opsApartSpec)) opsApartCard

/-- THE TIED CARD OF 'prolixlaw05.OpsBack'. -/
def opsBackCard : Claim7 := { stood := { row := opsBackRow, standIns := [], harness := (true, "f14bdbb30ea3fc0c2d45bf7652b06644dbfb404cab3ca2b3aabe362d7b9ff5d8"), looks := true }, kinds := [], alts := [], laidByText := true, laidKinds := [.listed, .data, .data, .data], laidTests := true, laidLooks := .later }
def OpsBackCardSaid : Prop := Claim7.holds Tryd.pinned (.plain (OpenSpec.ofChange opsBackSpec)) opsBackCard

/-- THE TIED CARD OF 'prolixlaw05.OpsLast'. -/
def opsLastCard : Claim7 := { stood := { row := opsLastRow, standIns := [], harness := (true, "f14bdbb30ea3fc0c2d45bf7652b06644dbfb404cab3ca2b3aabe362d7b9ff5d8"), looks := true }, kinds := [], alts := [], laidByText := true, laidKinds := [.listed, .data, .data, .data], laidTests := true, laidLooks := .later }
def OpsLastCardSaid : Prop := Claim7.holds Tryd.pinned (.plain (OpenSpec.ofChange opsLastSpec)) opsLastCard

/-- THE SECOND FORM's CARD OF 'prolixlaw05.OpsPlay'. -/
def opsPlayUptoCard : Claim7 := { stood := { row := opsPlayUptoRow, standIns := [], harness := (true, "f14bdbb30ea3fc0c2d45bf7652b06644dbfb404cab3ca2b3aabe362d7b9ff5d8"), looks := true }, kinds := [], alts := [], laidByText := true, laidKinds := [.listed, .data, .data, .data], laidTests := true, laidLooks := .later }
def OpsPlayUptoCardSaid : Prop := Claim7.holds Tryd.pinned (.plain (OpenSpec.upto opsPlaySpec)) opsPlayUptoCard

/-- THE SECOND FORM's CARD OF 'prolixlaw05.OpsApart'. -/
def opsApartUptoCard : Claim7 := { stood := { row := opsApartUptoRow, standIns := [], harness := (true, "f14bdbb30ea3fc0c2d45bf7652b06644dbfb404cab3ca2b3aabe362d7b9ff5d8"), looks := true }, kinds := [], alts := [], laidByText := true, laidKinds := [.listed, .data, .data, .data], laidTests := true, laidLooks := .later }
def OpsApartUptoCardSaid : Prop := Claim7.holds Tryd.pinned (.plain (OpenSpec.upto opsApartSpec)) opsApartUptoCard

/-- THE SECOND FORM's CARD OF 'prolixlaw05.OpsBack'. -/
def opsBackUptoCard : Claim7 := { stood := { row := opsBackUptoRow, standIns := [], harness := (true, "f14bdbb30ea3fc0c2d45bf7652b06644dbfb404cab3ca2b3aabe362d7b9ff5d8"), looks := true }, kinds := [], alts := [], laidByText := true, laidKinds := [.listed, .data, .data, .data], laidTests := true, laidLooks := .later }
def OpsBackUptoCardSaid : Prop := Claim7.holds Tryd.pinned (.plain (OpenSpec.upto opsBackSpec)) opsBackUptoCard

/-- THE SECOND FORM's CARD OF 'prolixlaw05.OpsLast'. -/
def opsLastUptoCard : Claim7 := { stood := { row := opsLastUptoRow, standIns := [], harness := (true, "f14bdbb30ea3fc0c2d45bf7652b06644dbfb404cab3ca2b3aabe362d7b9ff5d8"), looks := true }, kinds := [], alts := [], laidByText := true, laidKinds := [.listed, .data, .data, .data], laidTests := true, laidLooks := .later }
def OpsLastUptoCardSaid : Prop := Claim7.holds Tryd.pinned (.plain (OpenSpec.upto opsLastSpec)) opsLastUptoCard
end Rows
end Go.Proofs.YtnnhpjpfmmlimaaDoor
