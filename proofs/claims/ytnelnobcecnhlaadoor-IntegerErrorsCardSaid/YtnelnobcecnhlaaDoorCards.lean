/-
  DERIVED. GIVEN WITH THE SEED: THE CARDS: each row of YtnelnobcecnhlaaDoorRows.lean that lists a variable, with what it lists TIED to the program's text (the seventh form; the later family's looks); each row that meets fmt, with fmt's text TOLD by the authors' own Lean function (tested against real Go, not proved from fmt's source: count such statements apart). THE CARD IS WHAT COUNTS. Prove the row's statement (the work); the ties are given (YtnelnobcecnhlaaDoorTie.lean); close each card by the builder's one call (the guide's Derived/Test/ToyasCard.lean, 'card_holds'). Laid BY PROGRAM, IN A SANDBOX (cutbox-door.mjs). By AI agents, Wed Nov 11 2026. No macro, syntax, notation, axiom, sorry.
-/
import Derived.Test.YtnelnobcecnhlaaDoorRows
import GoSem.ClaimSeven
namespace Go.Proofs.YtnelnobcecnhlaaDoor
namespace Rows

/-- THE TIED CARD OF 'sederuntlaw01.IntegerTexts'. -/
def integerTextsCard : Claim7 := { stood := { row := integerTextsRow, standIns := [], harness := (true, "9b6a92d13e0c7638058dc307616421df69d8250c9cc159434ba75ab218ed5709"), looks := false }, kinds := [], alts := [], laidByText := true, laidKinds := [.data, .data, .data], laidTests := true, laidLooks := .later }
def IntegerTextsCardSaid : Prop := Claim7.holds Tryd.pinned (.plain (OpenSpec.ofChange integerTextsSpec)) integerTextsCard

/-- THE TIED CARD OF 'sederuntlaw01.IntegerParse'. -/
def integerParseCard : Claim7 := { stood := { row := integerParseRow, standIns := [], harness := (true, "9b6a92d13e0c7638058dc307616421df69d8250c9cc159434ba75ab218ed5709"), looks := false }, kinds := [], alts := [], laidByText := true, laidKinds := [.data, .data, .data], laidTests := true, laidLooks := .later }
def IntegerParseCardSaid : Prop := Claim7.holds Tryd.pinned (.plain (OpenSpec.ofChange integerParseSpec)) integerParseCard

/-- THE TIED CARD OF 'sederuntlaw01.IntegerErrors'. -/
def integerErrorsCard : Claim7 := { stood := { row := integerErrorsRow, standIns := [], harness := (true, "9b6a92d13e0c7638058dc307616421df69d8250c9cc159434ba75ab218ed5709"), looks := false }, kinds := [], alts := [], laidByText := true, laidKinds := [.data, .data, .data], laidTests := true, laidLooks := .later }
def IntegerErrorsCardSaid : Prop := Claim7.holds Tryd.pinned (.plain (OpenSpec.ofChange integerErrorsSpec)) integerErrorsCard

/-- THE SECOND FORM's CARD OF 'sederuntlaw01.IntegerTexts'. -/
def integerTextsUptoCard : Claim7 := { stood := { row := integerTextsUptoRow, standIns := [], harness := (true, "9b6a92d13e0c7638058dc307616421df69d8250c9cc159434ba75ab218ed5709"), looks := false }, kinds := [], alts := [], laidByText := true, laidKinds := [.data, .data, .data], laidTests := true, laidLooks := .later }
def IntegerTextsUptoCardSaid : Prop := Claim7.holds Tryd.pinned (.plain (OpenSpec.upto integerTextsSpec)) integerTextsUptoCard

/-- THE SECOND FORM's CARD OF 'sederuntlaw01.IntegerParse'. -/
def integerParseUptoCard : Claim7 := { stood := { row := integerParseUptoRow, standIns := [], harness := (true, "9b6a92d13e0c7638058dc307616421df69d8250c9cc159434ba75ab218ed5709"), looks := false }, kinds := [], alts := [], laidByText := true, laidKinds := [.data, .data, .data], laidTests := true, laidLooks := .later }
def IntegerParseUptoCardSaid : Prop := Claim7.holds Tryd.pinned (.plain (OpenSpec.upto integerParseSpec)) integerParseUptoCard

/-- THE SECOND FORM's CARD OF 'sederuntlaw01.IntegerErrors'. -/
def integerErrorsUptoCard : Claim7 := { stood := { row := integerErrorsUptoRow, standIns := [], harness := (true, "9b6a92d13e0c7638058dc307616421df69d8250c9cc159434ba75ab218ed5709"), looks := false }, kinds := [], alts := [], laidByText := true, laidKinds := [.data, .data, .data], laidTests := true, laidLooks := .later }
def IntegerErrorsUptoCardSaid : Prop := Claim7.holds Tryd.pinned (.plain (OpenSpec.upto integerErrorsSpec)) integerErrorsUptoCard
end Rows
end Go.Proofs.YtnelnobcecnhlaaDoor
