/-
  NARROWER THAN 'FOR EVERY INPUT', by the rows' own cells (each row's printed sentence says how): DigestApart: laid · DigestCrc: laid · DigestBurst: laid · DigestXor: laid.
  DERIVED. THE GIVEN ROWS OF THIS SEAT. 4 by the template 'for every input the law returns true; each argument reads behind the call as it read before'; 0 by the template 'total and deterministic' (their statements: YtdnhecgjfanakaaDoorTotals.lean).
  GIVEN WITH THE SEED: the statements are not yours to turn. If you find one false, say at which input.
  Laid BY PROGRAM, IN A SANDBOX (cutbox-rows.mjs): the forced cells as the released guide's own fill.sh prints them over the translation 363410bf228dccf1… (all of the seat's roots in one cut). By AI agents, Wed Nov 11 2026. No macro, syntax, notation, axiom, sorry.
-/
import Derived.Test.YtdnhecgjfanakaaDoorChecked
import GoSem.Claim
import GoSem.ClaimJoined
import GoSem.ClaimMapViews
import Derived.JoinedTies
import Derived.KernelRfl
namespace Go.Proofs.YtdnhecgjfanakaaDoor
/- THE CELL 'sum', in the pinned program and in every row, IS THE sha256 OF THE DUMP (.gsa) THAT YtdnhecgjfanakaaDoorProg.lean LOADS. Nothing in Lean hashes anything: it is a label: what it is worth is what the hold of that sum in a sandbox is worth. -/
noncomputable def Tryd.pinned : Pinned := { name := "ytdnhecgjfanakaadoor", sum := "363410bf228dccf1f58264228f6014c53767bcff0b9565cf187b9a6e4cf8d92e", checked := Tryd.checked }
namespace Rows
def none {H : Type} : Left H := { results := [], args := [] }

/- WHAT THE LISTED PACKAGE-LEVEL VARIABLES READ AS WHEN THE CALL BEGINS. Each datum BY PROGRAM (the guide's laid-datum.mjs) off the statement by which the dump's own 'gosem.cut.vars' lays the variable. In a bare row this is a premise. The card (YtdnhecgjfanakaaDoorCards.lean) ties it to the program's text. -/
def laid_sederunt_digest_squareRoots {H : Type} : DataW H := .agg [.lit (.int .u32 1779033703), .lit (.int .u32 3144134277), .lit (.int .u32 1013904242), .lit (.int .u32 2773480762), .lit (.int .u32 1359893119), .lit (.int .u32 2600822924), .lit (.int .u32 528734635), .lit (.int .u32 1541459225)]
def laid_sederunt_digest_cubeRoots {H : Type} : DataW H := .agg [.lit (.int .u32 1116352408), .lit (.int .u32 1899447441), .lit (.int .u32 3049323471), .lit (.int .u32 3921009573), .lit (.int .u32 961987163), .lit (.int .u32 1508970993), .lit (.int .u32 2453635748), .lit (.int .u32 2870763221), .lit (.int .u32 3624381080), .lit (.int .u32 310598401), .lit (.int .u32 607225278), .lit (.int .u32 1426881987), .lit (.int .u32 1925078388), .lit (.int .u32 2162078206), .lit (.int .u32 2614888103), .lit (.int .u32 3248222580), .lit (.int .u32 3835390401), .lit (.int .u32 4022224774), .lit (.int .u32 264347078), .lit (.int .u32 604807628), .lit (.int .u32 770255983), .lit (.int .u32 1249150122), .lit (.int .u32 1555081692), .lit (.int .u32 1996064986), .lit (.int .u32 2554220882), .lit (.int .u32 2821834349), .lit (.int .u32 2952996808), .lit (.int .u32 3210313671), .lit (.int .u32 3336571891), .lit (.int .u32 3584528711), .lit (.int .u32 113926993), .lit (.int .u32 338241895), .lit (.int .u32 666307205), .lit (.int .u32 773529912), .lit (.int .u32 1294757372), .lit (.int .u32 1396182291), .lit (.int .u32 1695183700), .lit (.int .u32 1986661051), .lit (.int .u32 2177026350), .lit (.int .u32 2456956037), .lit (.int .u32 2730485921), .lit (.int .u32 2820302411), .lit (.int .u32 3259730800), .lit (.int .u32 3345764771), .lit (.int .u32 3516065817), .lit (.int .u32 3600352804), .lit (.int .u32 4094571909), .lit (.int .u32 275423344), .lit (.int .u32 430227734), .lit (.int .u32 506948616), .lit (.int .u32 659060556), .lit (.int .u32 883997877), .lit (.int .u32 958139571), .lit (.int .u32 1322822218), .lit (.int .u32 1537002063), .lit (.int .u32 1747873779), .lit (.int .u32 1955562222), .lit (.int .u32 2024104815), .lit (.int .u32 2227730452), .lit (.int .u32 2361852424), .lit (.int .u32 2428436474), .lit (.int .u32 2756734187), .lit (.int .u32 3204031479), .lit (.int .u32 3329325298)]
def laid_sederunt_digest_halfBytes {H : Type} : DataW H := .agg [.lit (.int .u32 0), .lit (.int .u32 498536548), .lit (.int .u32 997073096), .lit (.int .u32 651767980), .lit (.int .u32 1994146192), .lit (.int .u32 1802195444), .lit (.int .u32 1303535960), .lit (.int .u32 1342533948), .lit (.int .u32 3988292384), .lit (.int .u32 4027552580), .lit (.int .u32 3604390888), .lit (.int .u32 3412177804), .lit (.int .u32 2607071920), .lit (.int .u32 2262029012), .lit (.int .u32 2685067896), .lit (.int .u32 3183342108)]

/-- 'sederuntlaw04.DigestApart': WHATEVER THE INPUT: true; the input reads as it did. -/
def digestApartSpec : ChangeSpec := { name := "digestApart", fn := fun _ => fun
  | [d] => { results := [.lit (.bool true)], args := [d] }
  | _ => none }
def digestApartRow : OpenClaim := { program := "ytdnhecgjfanakaadoor", sum := "363410bf228dccf1f58264228f6014c53767bcff0b9565cf187b9a6e4cf8d92e", func := "sederunt/sederuntlaw04.DigestApart", spec := "digestApart", named := ["sederunt/digest.squareRoots", "sederunt/digest.cubeRoots", "sederunt/digest.halfBytes"], apart := false, laid := [("sederunt/digest.squareRoots", laid_sederunt_digest_squareRoots), ("sederunt/digest.cubeRoots", laid_sederunt_digest_cubeRoots), ("sederunt/digest.halfBytes", laid_sederunt_digest_halfBytes)] }
def DigestApartSaid : Prop := digestApartRow.holds Tryd.pinned (OpenSpec.ofChange digestApartSpec)

/-- ITS FALSE NEIGHBOUR: 'it returns false'. Refute it at one input. -/
def digestApartWrong : ChangeSpec := { name := "digestApart", fn := fun _ => fun
  | [d] => { results := [.lit (.bool false)], args := [d] }
  | _ => none }
def DigestApartWrongFalsely : Prop := digestApartRow.holds Tryd.pinned (OpenSpec.ofChange digestApartWrong)

/-- 'sederuntlaw04.DigestCrc': WHATEVER THE INPUT: true; the input reads as it did. -/
def digestCrcSpec : ChangeSpec := { name := "digestCrc", fn := fun _ => fun
  | [d] => { results := [.lit (.bool true)], args := [d] }
  | _ => none }
def digestCrcRow : OpenClaim := { program := "ytdnhecgjfanakaadoor", sum := "363410bf228dccf1f58264228f6014c53767bcff0b9565cf187b9a6e4cf8d92e", func := "sederunt/sederuntlaw04.DigestCrc", spec := "digestCrc", named := ["sederunt/digest.squareRoots", "sederunt/digest.cubeRoots", "sederunt/digest.halfBytes"], apart := false, laid := [("sederunt/digest.squareRoots", laid_sederunt_digest_squareRoots), ("sederunt/digest.cubeRoots", laid_sederunt_digest_cubeRoots), ("sederunt/digest.halfBytes", laid_sederunt_digest_halfBytes)] }
def DigestCrcSaid : Prop := digestCrcRow.holds Tryd.pinned (OpenSpec.ofChange digestCrcSpec)

/-- ITS FALSE NEIGHBOUR: 'it returns false'. Refute it at one input. -/
def digestCrcWrong : ChangeSpec := { name := "digestCrc", fn := fun _ => fun
  | [d] => { results := [.lit (.bool false)], args := [d] }
  | _ => none }
def DigestCrcWrongFalsely : Prop := digestCrcRow.holds Tryd.pinned (OpenSpec.ofChange digestCrcWrong)

/-- 'sederuntlaw04.DigestBurst': WHATEVER THE INPUT: true; the input reads as it did. -/
def digestBurstSpec : ChangeSpec := { name := "digestBurst", fn := fun _ => fun
  | [d1, d2, d3] => { results := [.lit (.bool true)], args := [d1, d2, d3] }
  | _ => none }
def digestBurstRow : OpenClaim := { program := "ytdnhecgjfanakaadoor", sum := "363410bf228dccf1f58264228f6014c53767bcff0b9565cf187b9a6e4cf8d92e", func := "sederunt/sederuntlaw04.DigestBurst", spec := "digestBurst", named := ["sederunt/digest.squareRoots", "sederunt/digest.cubeRoots", "sederunt/digest.halfBytes"], apart := false, laid := [("sederunt/digest.squareRoots", laid_sederunt_digest_squareRoots), ("sederunt/digest.cubeRoots", laid_sederunt_digest_cubeRoots), ("sederunt/digest.halfBytes", laid_sederunt_digest_halfBytes)] }
def DigestBurstSaid : Prop := digestBurstRow.holds Tryd.pinned (OpenSpec.ofChange digestBurstSpec)

/-- ITS FALSE NEIGHBOUR: 'it returns false'. Refute it at one input. -/
def digestBurstWrong : ChangeSpec := { name := "digestBurst", fn := fun _ => fun
  | [d1, d2, d3] => { results := [.lit (.bool false)], args := [d1, d2, d3] }
  | _ => none }
def DigestBurstWrongFalsely : Prop := digestBurstRow.holds Tryd.pinned (OpenSpec.ofChange digestBurstWrong)

/-- 'sederuntlaw04.DigestXor': WHATEVER THE INPUT: true; the input reads as it did. -/
def digestXorSpec : ChangeSpec := { name := "digestXor", fn := fun _ => fun
  | [d1, d2, d3] => { results := [.lit (.bool true)], args := [d1, d2, d3] }
  | _ => none }
def digestXorRow : OpenClaim := { program := "ytdnhecgjfanakaadoor", sum := "363410bf228dccf1f58264228f6014c53767bcff0b9565cf187b9a6e4cf8d92e", func := "sederunt/sederuntlaw04.DigestXor", spec := "digestXor", named := ["sederunt/digest.squareRoots", "sederunt/digest.cubeRoots", "sederunt/digest.halfBytes"], apart := false, laid := [("sederunt/digest.squareRoots", laid_sederunt_digest_squareRoots), ("sederunt/digest.cubeRoots", laid_sederunt_digest_cubeRoots), ("sederunt/digest.halfBytes", laid_sederunt_digest_halfBytes)] }
def DigestXorSaid : Prop := digestXorRow.holds Tryd.pinned (OpenSpec.ofChange digestXorSpec)

/-- ITS FALSE NEIGHBOUR: 'it returns false'. Refute it at one input. -/
def digestXorWrong : ChangeSpec := { name := "digestXor", fn := fun _ => fun
  | [d1, d2, d3] => { results := [.lit (.bool false)], args := [d1, d2, d3] }
  | _ => none }
def DigestXorWrongFalsely : Prop := digestXorRow.holds Tryd.pinned (OpenSpec.ofChange digestXorWrong)

/- THE SECOND FORM. 'bulk': how many values and letters a reading holds, each counted each time it is reached (what is shared counts as often as it is met; a slice's spare places count too). A statement '..UptoSaid' is the law's where the arguments, and the package variables that the reading takes, are together of bulk at most 1048576: NARROWER than '..Said'. Prove '..Said' where nothing that the law and all that it calls make is longer than what came in: it says more and counts as full. Else prove '..UptoSaid'. A law counts once. -/
mutual
def uptoBulk {H : Type} : DataW H → Nat
  | .lit (.string bytes) => bytes.length + 1
  | .lit _ => 1
  | .nil => 1
  | .ptr d => uptoBulk d + 1
  | .slice elems spare => uptoBulkAll elems + uptoBulkAll spare + 1
  | .agg parts => uptoBulkAll parts + 1
  | .iface _ d => uptoBulk d + 1
  | .map entries => uptoBulkEntries entries + 1
  | .held _ => 1
def uptoBulkAll {H : Type} : List (DataW H) → Nat
  | [] => 0
  | d :: r => uptoBulk d + uptoBulkAll r
def uptoBulkEntries {H : Type} : List (Lit × DataW H) → Nat
  | [] => 0
  | x :: r => uptoBulkEntry x + uptoBulkEntries r
def uptoBulkEntry {H : Type} : Lit × DataW H → Nat
  | (.string bytes, d) => bytes.length + uptoBulk d + 1
  | (_, d) => uptoBulk d + 1
 end
def uptoSmall : (H : Type) → List (DataW H) → Bool := fun _ ds => decide (uptoBulkAll ds ≤ 1048576)
def OpenSpec.upto (s : _root_.Go.ChangeSpec) : _root_.Go.OpenSpec := { _root_.Go.OpenSpec.ofChange s with cond := some uptoSmall }

/-- 'sederuntlaw04.DigestApart', WHERE WHAT IT READS IS OF BULK AT MOST 1048576: true; the input reads as it did. -/
def digestApartUptoRow : OpenClaim := { program := "ytdnhecgjfanakaadoor", sum := "363410bf228dccf1f58264228f6014c53767bcff0b9565cf187b9a6e4cf8d92e", func := "sederunt/sederuntlaw04.DigestApart", spec := "digestApart", named := ["sederunt/digest.squareRoots", "sederunt/digest.cubeRoots", "sederunt/digest.halfBytes"], apart := false, laid := [("sederunt/digest.squareRoots", laid_sederunt_digest_squareRoots), ("sederunt/digest.cubeRoots", laid_sederunt_digest_cubeRoots), ("sederunt/digest.halfBytes", laid_sederunt_digest_halfBytes)], narrowed := true }
def DigestApartUptoSaid : Prop := digestApartUptoRow.holds Tryd.pinned (OpenSpec.upto digestApartSpec)

/-- 'sederuntlaw04.DigestCrc', WHERE WHAT IT READS IS OF BULK AT MOST 1048576: true; the input reads as it did. -/
def digestCrcUptoRow : OpenClaim := { program := "ytdnhecgjfanakaadoor", sum := "363410bf228dccf1f58264228f6014c53767bcff0b9565cf187b9a6e4cf8d92e", func := "sederunt/sederuntlaw04.DigestCrc", spec := "digestCrc", named := ["sederunt/digest.squareRoots", "sederunt/digest.cubeRoots", "sederunt/digest.halfBytes"], apart := false, laid := [("sederunt/digest.squareRoots", laid_sederunt_digest_squareRoots), ("sederunt/digest.cubeRoots", laid_sederunt_digest_cubeRoots), ("sederunt/digest.halfBytes", laid_sederunt_digest_halfBytes)], narrowed := true }
def DigestCrcUptoSaid : Prop := digestCrcUptoRow.holds Tryd.pinned (OpenSpec.upto digestCrcSpec)

/-- 'sederuntlaw04.DigestBurst', WHERE WHAT IT READS IS OF BULK AT MOST 1048576: true; the input reads as it did. -/
def digestBurstUptoRow : OpenClaim := { program := "ytdnhecgjfanakaadoor", sum := "363410bf228dccf1f58264228f6014c53767bcff0b9565cf187b9a6e4cf8d92e", func := "sederunt/sederuntlaw04.DigestBurst", spec := "digestBurst", named := ["sederunt/digest.squareRoots", "sederunt/digest.cubeRoots", "sederunt/digest.halfBytes"], apart := false, laid := [("sederunt/digest.squareRoots", laid_sederunt_digest_squareRoots), ("sederunt/digest.cubeRoots", laid_sederunt_digest_cubeRoots), ("sederunt/digest.halfBytes", laid_sederunt_digest_halfBytes)], narrowed := true }
def DigestBurstUptoSaid : Prop := digestBurstUptoRow.holds Tryd.pinned (OpenSpec.upto digestBurstSpec)

/-- 'sederuntlaw04.DigestXor', WHERE WHAT IT READS IS OF BULK AT MOST 1048576: true; the input reads as it did. -/
def digestXorUptoRow : OpenClaim := { program := "ytdnhecgjfanakaadoor", sum := "363410bf228dccf1f58264228f6014c53767bcff0b9565cf187b9a6e4cf8d92e", func := "sederunt/sederuntlaw04.DigestXor", spec := "digestXor", named := ["sederunt/digest.squareRoots", "sederunt/digest.cubeRoots", "sederunt/digest.halfBytes"], apart := false, laid := [("sederunt/digest.squareRoots", laid_sederunt_digest_squareRoots), ("sederunt/digest.cubeRoots", laid_sederunt_digest_cubeRoots), ("sederunt/digest.halfBytes", laid_sederunt_digest_halfBytes)], narrowed := true }
def DigestXorUptoSaid : Prop := digestXorUptoRow.holds Tryd.pinned (OpenSpec.upto digestXorSpec)

end Rows
end Go.Proofs.YtdnhecgjfanakaaDoor
