/-
  DERIVED. GIVEN WITH THE SEED: THE CARDS: each row of YtkplokfcjjcpcaaGreatDoorRows.lean that lists a variable, with what it lists TIED to the program's text (the seventh form; the later family's looks); each row that meets fmt, with fmt's text TOLD by the authors' own Lean function (tested against real Go, not proved from fmt's source: count such statements apart). THE CARD IS WHAT COUNTS. Prove the row's statement (the work); the ties are given (YtkplokfcjjcpcaaGreatDoorTie.lean); close each card by the builder's one call (the guide's Derived/Test/ToyasCard.lean, 'card_holds'). Laid BY PROGRAM, IN A SANDBOX (cutbox-door.mjs). By AI agents, Wed Nov 11 2026. No macro, syntax, notation, axiom, sorry.
-/
import Derived.Test.YtkplokfcjjcpcaaGreatDoorRows
import GoSem.ClaimSeven
namespace Go.Proofs.YtkplokfcjjcpcaaGreatDoor
namespace Rows

/-- THE TIED CARD OF 'prolixlaw06.ReadTexts'. -/
def readTextsCard : Claim7 := { stood := { row := readTextsRow, standIns := [], harness := (true, "a983e39693df04f2c7515bf9c0434ec5628ff6a060627ed38a1d58dbd79abe89"), looks := true }, kinds := [], alts := [], laidByText := true, laidKinds := [.data, .data, .data, .sentinel, .sentinel, .listed, .data, .data, .data], laidTests := true, laidLooks := .later }
def ReadTextsCardSaid : Prop := Claim7.holds Tryz.pinned (.plain (OpenSpec.ofChange readTextsSpec)) readTextsCard

/-- THE TIED CARD OF 'prolixlaw06.ReadBehind'. -/
def readBehindCard : Claim7 := { stood := { row := readBehindRow, standIns := [], harness := (true, "a983e39693df04f2c7515bf9c0434ec5628ff6a060627ed38a1d58dbd79abe89"), looks := true }, kinds := [], alts := [], laidByText := true, laidKinds := [.data, .data, .data, .sentinel, .sentinel, .listed, .data, .data, .data], laidTests := true, laidLooks := .later }
def ReadBehindCardSaid : Prop := Claim7.holds Tryz.pinned (.plain (OpenSpec.ofChange readBehindSpec)) readBehindCard

/-- THE TIED CARD OF 'prolixlaw06.ReadRight'. -/
def readRightCard : Claim7 := { stood := { row := readRightRow, standIns := [], harness := (true, "a983e39693df04f2c7515bf9c0434ec5628ff6a060627ed38a1d58dbd79abe89"), looks := true }, kinds := [], alts := [], laidByText := true, laidKinds := [.data, .data, .data, .sentinel, .sentinel, .listed, .data, .data, .data], laidTests := true, laidLooks := .later }
def ReadRightCardSaid : Prop := Claim7.holds Tryz.pinned (.plain (OpenSpec.ofChange readRightSpec)) readRightCard

/-- THE TIED CARD OF 'prolixlaw06.ReadBrackets'. -/
def readBracketsCard : Claim7 := { stood := { row := readBracketsRow, standIns := [], harness := (true, "a983e39693df04f2c7515bf9c0434ec5628ff6a060627ed38a1d58dbd79abe89"), looks := true }, kinds := [], alts := [], laidByText := true, laidKinds := [.data, .data, .data, .sentinel, .sentinel, .listed, .data, .data], laidTests := true, laidLooks := .later }
def ReadBracketsCardSaid : Prop := Claim7.holds Tryz.pinned (.plain (OpenSpec.ofChange readBracketsSpec)) readBracketsCard

/-- THE TIED CARD OF 'prolixlaw06.ReadInts'. -/
def readIntsCard : Claim7 := { stood := { row := readIntsRow, standIns := [], harness := (true, "a983e39693df04f2c7515bf9c0434ec5628ff6a060627ed38a1d58dbd79abe89"), looks := true }, kinds := [], alts := [], laidByText := true, laidKinds := [.data, .data, .data, .sentinel, .sentinel, .listed, .data, .data], laidTests := true, laidLooks := .later }
def ReadIntsCardSaid : Prop := Claim7.holds Tryz.pinned (.plain (OpenSpec.ofChange readIntsSpec)) readIntsCard

/-- THE TIED CARD OF 'prolixlaw07.WritePuts'. -/
def writePutsCard : Claim7 := { stood := { row := writePutsRow, standIns := [], harness := (true, "a983e39693df04f2c7515bf9c0434ec5628ff6a060627ed38a1d58dbd79abe89"), looks := true }, kinds := [], alts := [], laidByText := true, laidKinds := [.data, .data, .data, .sentinel, .sentinel, .listed, .data, .data, .data], laidTests := true, laidLooks := .later }
def WritePutsCardSaid : Prop := Claim7.holds Tryz.pinned (.plain (OpenSpec.ofChange writePutsSpec)) writePutsCard

/-- THE TIED CARD OF 'prolixlaw07.WriteBack'. -/
def writeBackCard : Claim7 := { stood := { row := writeBackRow, standIns := [], harness := (true, "a983e39693df04f2c7515bf9c0434ec5628ff6a060627ed38a1d58dbd79abe89"), looks := true }, kinds := [], alts := [], laidByText := true, laidKinds := [.data, .data, .data, .sentinel, .sentinel, .listed, .data, .data, .data], laidTests := true, laidLooks := .later }
def WriteBackCardSaid : Prop := Claim7.holds Tryz.pinned (.plain (OpenSpec.ofChange writeBackSpec)) writeBackCard

/-- THE TIED CARD OF 'prolixlaw07.WriteCanonical'. -/
def writeCanonicalCard : Claim7 := { stood := { row := writeCanonicalRow, standIns := [], harness := (true, "a983e39693df04f2c7515bf9c0434ec5628ff6a060627ed38a1d58dbd79abe89"), looks := true }, kinds := [], alts := [], laidByText := true, laidKinds := [.data, .data, .data, .sentinel, .sentinel, .listed, .data, .data, .data], laidTests := true, laidLooks := .later }
def WriteCanonicalCardSaid : Prop := Claim7.holds Tryz.pinned (.plain (OpenSpec.ofChange writeCanonicalSpec)) writeCanonicalCard

/-- THE TIED CARD OF 'prolixlaw07.WriteAgain'. -/
def writeAgainCard : Claim7 := { stood := { row := writeAgainRow, standIns := [], harness := (true, "a983e39693df04f2c7515bf9c0434ec5628ff6a060627ed38a1d58dbd79abe89"), looks := true }, kinds := [], alts := [], laidByText := true, laidKinds := [.data, .data, .data, .sentinel, .sentinel, .listed, .data, .data, .data], laidTests := true, laidLooks := .later }
def WriteAgainCardSaid : Prop := Claim7.holds Tryz.pinned (.plain (OpenSpec.ofChange writeAgainSpec)) writeAgainCard

/-- THE TIED CARD OF 'prolixlaw07.WriteArgs'. -/
def writeArgsCard : Claim7 := { stood := { row := writeArgsRow, standIns := [], harness := (true, "a983e39693df04f2c7515bf9c0434ec5628ff6a060627ed38a1d58dbd79abe89"), looks := true }, kinds := [], alts := [], laidByText := true, laidKinds := [.data, .data, .data, .sentinel, .sentinel, .listed, .data, .data], laidTests := true, laidLooks := .later }
def WriteArgsCardSaid : Prop := Claim7.holds Tryz.pinned (.plain (OpenSpec.ofChange writeArgsSpec)) writeArgsCard

/-- THE TIED CARD OF 'prolixlaw07.WritePlain'. -/
def writePlainCard : Claim7 := { stood := { row := writePlainRow, standIns := [], harness := (true, "a983e39693df04f2c7515bf9c0434ec5628ff6a060627ed38a1d58dbd79abe89"), looks := true }, kinds := [], alts := [], laidByText := true, laidKinds := [.data, .data, .data, .sentinel, .sentinel, .listed, .data, .data], laidTests := true, laidLooks := .later }
def WritePlainCardSaid : Prop := Claim7.holds Tryz.pinned (.plain (OpenSpec.ofChange writePlainSpec)) writePlainCard

/-- THE SECOND FORM's CARD OF 'prolixlaw06.ReadTexts'. -/
def readTextsUptoCard : Claim7 := { stood := { row := readTextsUptoRow, standIns := [], harness := (true, "a983e39693df04f2c7515bf9c0434ec5628ff6a060627ed38a1d58dbd79abe89"), looks := true }, kinds := [], alts := [], laidByText := true, laidKinds := [.data, .data, .data, .sentinel, .sentinel, .listed, .data, .data, .data], laidTests := true, laidLooks := .later }
def ReadTextsUptoCardSaid : Prop := Claim7.holds Tryz.pinned (.plain (OpenSpec.upto readTextsSpec)) readTextsUptoCard

/-- THE SECOND FORM's CARD OF 'prolixlaw06.ReadBehind'. -/
def readBehindUptoCard : Claim7 := { stood := { row := readBehindUptoRow, standIns := [], harness := (true, "a983e39693df04f2c7515bf9c0434ec5628ff6a060627ed38a1d58dbd79abe89"), looks := true }, kinds := [], alts := [], laidByText := true, laidKinds := [.data, .data, .data, .sentinel, .sentinel, .listed, .data, .data, .data], laidTests := true, laidLooks := .later }
def ReadBehindUptoCardSaid : Prop := Claim7.holds Tryz.pinned (.plain (OpenSpec.upto readBehindSpec)) readBehindUptoCard

/-- THE SECOND FORM's CARD OF 'prolixlaw06.ReadRight'. -/
def readRightUptoCard : Claim7 := { stood := { row := readRightUptoRow, standIns := [], harness := (true, "a983e39693df04f2c7515bf9c0434ec5628ff6a060627ed38a1d58dbd79abe89"), looks := true }, kinds := [], alts := [], laidByText := true, laidKinds := [.data, .data, .data, .sentinel, .sentinel, .listed, .data, .data, .data], laidTests := true, laidLooks := .later }
def ReadRightUptoCardSaid : Prop := Claim7.holds Tryz.pinned (.plain (OpenSpec.upto readRightSpec)) readRightUptoCard

/-- THE SECOND FORM's CARD OF 'prolixlaw06.ReadBrackets'. -/
def readBracketsUptoCard : Claim7 := { stood := { row := readBracketsUptoRow, standIns := [], harness := (true, "a983e39693df04f2c7515bf9c0434ec5628ff6a060627ed38a1d58dbd79abe89"), looks := true }, kinds := [], alts := [], laidByText := true, laidKinds := [.data, .data, .data, .sentinel, .sentinel, .listed, .data, .data], laidTests := true, laidLooks := .later }
def ReadBracketsUptoCardSaid : Prop := Claim7.holds Tryz.pinned (.plain (OpenSpec.upto readBracketsSpec)) readBracketsUptoCard

/-- THE SECOND FORM's CARD OF 'prolixlaw06.ReadInts'. -/
def readIntsUptoCard : Claim7 := { stood := { row := readIntsUptoRow, standIns := [], harness := (true, "a983e39693df04f2c7515bf9c0434ec5628ff6a060627ed38a1d58dbd79abe89"), looks := true }, kinds := [], alts := [], laidByText := true, laidKinds := [.data, .data, .data, .sentinel, .sentinel, .listed, .data, .data], laidTests := true, laidLooks := .later }
def ReadIntsUptoCardSaid : Prop := Claim7.holds Tryz.pinned (.plain (OpenSpec.upto readIntsSpec)) readIntsUptoCard

/-- THE SECOND FORM's CARD OF 'prolixlaw07.WritePuts'. -/
def writePutsUptoCard : Claim7 := { stood := { row := writePutsUptoRow, standIns := [], harness := (true, "a983e39693df04f2c7515bf9c0434ec5628ff6a060627ed38a1d58dbd79abe89"), looks := true }, kinds := [], alts := [], laidByText := true, laidKinds := [.data, .data, .data, .sentinel, .sentinel, .listed, .data, .data, .data], laidTests := true, laidLooks := .later }
def WritePutsUptoCardSaid : Prop := Claim7.holds Tryz.pinned (.plain (OpenSpec.upto writePutsSpec)) writePutsUptoCard

/-- THE SECOND FORM's CARD OF 'prolixlaw07.WriteBack'. -/
def writeBackUptoCard : Claim7 := { stood := { row := writeBackUptoRow, standIns := [], harness := (true, "a983e39693df04f2c7515bf9c0434ec5628ff6a060627ed38a1d58dbd79abe89"), looks := true }, kinds := [], alts := [], laidByText := true, laidKinds := [.data, .data, .data, .sentinel, .sentinel, .listed, .data, .data, .data], laidTests := true, laidLooks := .later }
def WriteBackUptoCardSaid : Prop := Claim7.holds Tryz.pinned (.plain (OpenSpec.upto writeBackSpec)) writeBackUptoCard

/-- THE SECOND FORM's CARD OF 'prolixlaw07.WriteCanonical'. -/
def writeCanonicalUptoCard : Claim7 := { stood := { row := writeCanonicalUptoRow, standIns := [], harness := (true, "a983e39693df04f2c7515bf9c0434ec5628ff6a060627ed38a1d58dbd79abe89"), looks := true }, kinds := [], alts := [], laidByText := true, laidKinds := [.data, .data, .data, .sentinel, .sentinel, .listed, .data, .data, .data], laidTests := true, laidLooks := .later }
def WriteCanonicalUptoCardSaid : Prop := Claim7.holds Tryz.pinned (.plain (OpenSpec.upto writeCanonicalSpec)) writeCanonicalUptoCard

/-- THE SECOND FORM's CARD OF 'prolixlaw07.WriteAgain'. -/
def writeAgainUptoCard : Claim7 := { stood := { row := writeAgainUptoRow, standIns := [], harness := (true, "a983e39693df04f2c7515bf9c0434ec5628ff6a060627ed38a1d58dbd79abe89"), looks := true }, kinds := [], alts := [], laidByText := true, laidKinds := [.data, .data, .data, .sentinel, .sentinel, .listed, .data, .data, .data], laidTests := true, laidLooks := .later }
def WriteAgainUptoCardSaid : Prop := Claim7.holds Tryz.pinned (.plain (OpenSpec.upto writeAgainSpec)) writeAgainUptoCard

/-- THE SECOND FORM's CARD OF 'prolixlaw07.WriteArgs'. -/
def writeArgsUptoCard : Claim7 := { stood := { row := writeArgsUptoRow, standIns := [], harness := (true, "a983e39693df04f2c7515bf9c0434ec5628ff6a060627ed38a1d58dbd79abe89"), looks := true }, kinds := [], alts := [], laidByText := true, laidKinds := [.data, .data, .data, .sentinel, .sentinel, .listed, .data, .data], laidTests := true, laidLooks := .later }
def WriteArgsUptoCardSaid : Prop := Claim7.holds Tryz.pinned (.plain (OpenSpec.upto writeArgsSpec)) writeArgsUptoCard

/-- THE SECOND FORM's CARD OF 'prolixlaw07.WritePlain'. -/
def writePlainUptoCard : Claim7 := { stood := { row := writePlainUptoRow, standIns := [], harness := (true, "a983e39693df04f2c7515bf9c0434ec5628ff6a060627ed38a1d58dbd79abe89"), looks := true }, kinds := [], alts := [], laidByText := true, laidKinds := [.data, .data, .data, .sentinel, .sentinel, .listed, .data, .data], laidTests := true, laidLooks := .later }
def WritePlainUptoCardSaid : Prop := Claim7.holds Tryz.pinned (.plain (OpenSpec.upto writePlainSpec)) writePlainUptoCard
end Rows
end Go.Proofs.YtkplokfcjjcpcaaGreatDoor
