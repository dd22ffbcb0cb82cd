/-
  DERIVED. GIVEN WITH THE SEED: THE CARDS: each row of YtijcijdgpeolhaaDoorRows.lean that lists a variable, with what it lists TIED to the program's text (the seventh form; the later family's looks); each row that meets fmt, with fmt's text TOLD by the authors' own Lean function (tested against real Go, not proved from fmt's source: count such statements apart). THE CARD IS WHAT COUNTS. Prove the row's statement (the work); the ties are given (YtijcijdgpeolhaaDoorTie.lean); close each card by the builder's one call (the guide's Derived/Test/ToyasCard.lean, 'card_holds'). Laid BY PROGRAM, IN A SANDBOX (cutbox-door.mjs). By AI agents, Wed Nov 11 2026. No macro, syntax, notation, axiom, sorry.
-/
import Derived.Test.YtijcijdgpeolhaaDoorRows
import GoSem.ClaimSeven
namespace Go.Proofs.YtijcijdgpeolhaaDoor
namespace Rows

/-- THE TIED CARD OF 'sederuntlaw01.IntegerTexts'. -/
def integerTextsCard : Claim7 := { stood := { row := integerTextsRow, standIns := [], harness := (true, "889468f31fcc63ff558ab36ec6364d0a5c2afbef03439646c0da1ac3e4a3d4f9"), looks := false }, kinds := [], alts := [], laidByText := true, laidKinds := [.data, .data, .data], laidTests := true, laidLooks := .later }
def IntegerTextsCardSaid : Prop := Claim7.holds Tryd.pinned (.plain (OpenSpec.ofChange integerTextsSpec)) integerTextsCard

/-- THE TIED CARD OF 'sederuntlaw01.IntegerParse'. -/
def integerParseCard : Claim7 := { stood := { row := integerParseRow, standIns := [], harness := (true, "889468f31fcc63ff558ab36ec6364d0a5c2afbef03439646c0da1ac3e4a3d4f9"), looks := false }, kinds := [], alts := [], laidByText := true, laidKinds := [.data, .data, .data], laidTests := true, laidLooks := .later }
def IntegerParseCardSaid : Prop := Claim7.holds Tryd.pinned (.plain (OpenSpec.ofChange integerParseSpec)) integerParseCard

/-- THE SECOND FORM's CARD OF 'sederuntlaw01.IntegerTexts'. -/
def integerTextsUptoCard : Claim7 := { stood := { row := integerTextsUptoRow, standIns := [], harness := (true, "889468f31fcc63ff558ab36ec6364d0a5c2afbef03439646c0da1ac3e4a3d4f9"), looks := false }, kinds := [], alts := [], laidByText := true, laidKinds := [.data, .data, .data], laidTests := true, laidLooks := .later }
def IntegerTextsUptoCardSaid : Prop := Claim7.holds Tryd.pinned (.plain (OpenSpec.upto integerTextsSpec)) integerTextsUptoCard

/-- THE SECOND FORM's CARD OF 'sederuntlaw01.IntegerParse'. -/
def integerParseUptoCard : Claim7 := { stood := { row := integerParseUptoRow, standIns := [], harness := (true, "889468f31fcc63ff558ab36ec6364d0a5c2afbef03439646c0da1ac3e4a3d4f9"), looks := false }, kinds := [], alts := [], laidByText := true, laidKinds := [.data, .data, .data], laidTests := true, laidLooks := .later }
def IntegerParseUptoCardSaid : Prop := Claim7.holds Tryd.pinned (.plain (OpenSpec.upto integerParseSpec)) integerParseUptoCard
end Rows
end Go.Proofs.YtijcijdgpeolhaaDoor
