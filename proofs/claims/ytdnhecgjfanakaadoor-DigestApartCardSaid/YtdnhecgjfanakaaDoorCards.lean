/-
  DERIVED. GIVEN WITH THE SEED: THE CARDS: each row of YtdnhecgjfanakaaDoorRows.lean that lists a variable, with what it lists TIED to the program's text (the seventh form; the later family's looks); each row that meets fmt, with fmt's text TOLD by the authors' own Lean function (tested against real Go, not proved from fmt's source: count such statements apart). THE CARD IS WHAT COUNTS. Prove the row's statement (the work); the ties are given (YtdnhecgjfanakaaDoorTie.lean); close each card by the builder's one call (the guide's Derived/Test/ToyasCard.lean, 'card_holds'). Laid BY PROGRAM, IN A SANDBOX (cutbox-door.mjs). By AI agents, Wed Nov 11 2026. No macro, syntax, notation, axiom, sorry.
-/
import Derived.Test.YtdnhecgjfanakaaDoorRows
import GoSem.ClaimSeven
namespace Go.Proofs.YtdnhecgjfanakaaDoor
namespace Rows

/-- THE TIED CARD OF 'sederuntlaw04.DigestApart'. -/
def digestApartCard : Claim7 := { stood := { row := digestApartRow, standIns := [], harness := (true, "762759fb65fd926b38746da97e8ee1adf6bf2b3a817c214109b24cf5f067520a"), looks := false }, kinds := [], alts := [], laidByText := true, laidKinds := [.data, .data, .data], laidTests := true, laidLooks := .later }
def DigestApartCardSaid : Prop := Claim7.holds Tryd.pinned (.plain (OpenSpec.ofChange digestApartSpec)) digestApartCard

/-- THE TIED CARD OF 'sederuntlaw04.DigestCrc'. -/
def digestCrcCard : Claim7 := { stood := { row := digestCrcRow, standIns := [], harness := (true, "762759fb65fd926b38746da97e8ee1adf6bf2b3a817c214109b24cf5f067520a"), looks := false }, kinds := [], alts := [], laidByText := true, laidKinds := [.data, .data, .data], laidTests := true, laidLooks := .later }
def DigestCrcCardSaid : Prop := Claim7.holds Tryd.pinned (.plain (OpenSpec.ofChange digestCrcSpec)) digestCrcCard

/-- THE TIED CARD OF 'sederuntlaw04.DigestBurst'. -/
def digestBurstCard : Claim7 := { stood := { row := digestBurstRow, standIns := [], harness := (true, "762759fb65fd926b38746da97e8ee1adf6bf2b3a817c214109b24cf5f067520a"), looks := false }, kinds := [], alts := [], laidByText := true, laidKinds := [.data, .data, .data], laidTests := true, laidLooks := .later }
def DigestBurstCardSaid : Prop := Claim7.holds Tryd.pinned (.plain (OpenSpec.ofChange digestBurstSpec)) digestBurstCard

/-- THE TIED CARD OF 'sederuntlaw04.DigestXor'. -/
def digestXorCard : Claim7 := { stood := { row := digestXorRow, standIns := [], harness := (true, "762759fb65fd926b38746da97e8ee1adf6bf2b3a817c214109b24cf5f067520a"), looks := false }, kinds := [], alts := [], laidByText := true, laidKinds := [.data, .data, .data], laidTests := true, laidLooks := .later }
def DigestXorCardSaid : Prop := Claim7.holds Tryd.pinned (.plain (OpenSpec.ofChange digestXorSpec)) digestXorCard

/-- THE SECOND FORM's CARD OF 'sederuntlaw04.DigestApart'. -/
def digestApartUptoCard : Claim7 := { stood := { row := digestApartUptoRow, standIns := [], harness := (true, "762759fb65fd926b38746da97e8ee1adf6bf2b3a817c214109b24cf5f067520a"), looks := false }, kinds := [], alts := [], laidByText := true, laidKinds := [.data, .data, .data], laidTests := true, laidLooks := .later }
def DigestApartUptoCardSaid : Prop := Claim7.holds Tryd.pinned (.plain (OpenSpec.upto digestApartSpec)) digestApartUptoCard

/-- THE SECOND FORM's CARD OF 'sederuntlaw04.DigestCrc'. -/
def digestCrcUptoCard : Claim7 := { stood := { row := digestCrcUptoRow, standIns := [], harness := (true, "762759fb65fd926b38746da97e8ee1adf6bf2b3a817c214109b24cf5f067520a"), looks := false }, kinds := [], alts := [], laidByText := true, laidKinds := [.data, .data, .data], laidTests := true, laidLooks := .later }
def DigestCrcUptoCardSaid : Prop := Claim7.holds Tryd.pinned (.plain (OpenSpec.upto digestCrcSpec)) digestCrcUptoCard

/-- THE SECOND FORM's CARD OF 'sederuntlaw04.DigestBurst'. -/
def digestBurstUptoCard : Claim7 := { stood := { row := digestBurstUptoRow, standIns := [], harness := (true, "762759fb65fd926b38746da97e8ee1adf6bf2b3a817c214109b24cf5f067520a"), looks := false }, kinds := [], alts := [], laidByText := true, laidKinds := [.data, .data, .data], laidTests := true, laidLooks := .later }
def DigestBurstUptoCardSaid : Prop := Claim7.holds Tryd.pinned (.plain (OpenSpec.upto digestBurstSpec)) digestBurstUptoCard

/-- THE SECOND FORM's CARD OF 'sederuntlaw04.DigestXor'. -/
def digestXorUptoCard : Claim7 := { stood := { row := digestXorUptoRow, standIns := [], harness := (true, "762759fb65fd926b38746da97e8ee1adf6bf2b3a817c214109b24cf5f067520a"), looks := false }, kinds := [], alts := [], laidByText := true, laidKinds := [.data, .data, .data], laidTests := true, laidLooks := .later }
def DigestXorUptoCardSaid : Prop := Claim7.holds Tryd.pinned (.plain (OpenSpec.upto digestXorSpec)) digestXorUptoCard
end Rows
end Go.Proofs.YtdnhecgjfanakaaDoor
