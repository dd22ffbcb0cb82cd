/-
  No cell of these rows narrows 'for every input' (looked for: loops, veiled, ifaces, maps, wideKeys, modest, calm, conditions, laid).
  DERIVED. THE GIVEN ROWS OF THIS SEAT. 7 by the template 'for every input the law returns true; each argument reads behind the call as it read before'; 0 by the template 'total and deterministic' (their statements: YtnelnobcecnhlaaTotals.lean).
  GIVEN WITH THE SEED: the statements are not yours to turn. If you find one false, say at which input.
  Laid BY PROGRAM, IN A SANDBOX (cutbox-rows.mjs): the forced cells as the released guide's own fill.sh prints them over the translation d17e9c465b9046f0… (all of the seat's roots in one cut). By AI agents, Wed Nov 11 2026. No macro, syntax, notation, axiom, sorry.
-/
import Derived.Test.YtnelnobcecnhlaaChecked
import GoSem.Claim
import GoSem.ClaimJoined
import GoSem.ClaimMapViews
import Derived.JoinedTies
import Derived.KernelRfl
namespace Go.Proofs.Ytnelnobcecnhlaa
/- THE CELL 'sum', in the pinned program and in every row, IS THE sha256 OF THE DUMP (.gsa) THAT YtnelnobcecnhlaaProg.lean LOADS. Nothing in Lean hashes anything: it is a label: what it is worth is what the hold of that sum in a sandbox is worth. -/
noncomputable def Try.pinned : Pinned := { name := "ytnelnobcecnhlaa", sum := "d17e9c465b9046f0fb675430df01c0ac8fbac67241107490705c80d2e9ad800f", checked := Try.checked }
namespace Rows
def none {H : Type} : Left H := { results := [], args := [] }

/-- 'sederuntlaw01.IntegerOf': WHATEVER THE INPUT: true; the input reads as it did. -/
def integerOfSpec : ChangeSpec := { name := "integerOf", fn := fun _ => fun
  | [d] => { results := [.lit (.bool true)], args := [d] }
  | _ => none }
def integerOfRow : OpenClaim := { program := "ytnelnobcecnhlaa", sum := "d17e9c465b9046f0fb675430df01c0ac8fbac67241107490705c80d2e9ad800f", func := "sederunt/sederuntlaw01.IntegerOf", spec := "integerOf", unfollowed := true, recurses := true, apart := false }
def IntegerOfSaid : Prop := integerOfRow.holds Try.pinned (OpenSpec.ofChange integerOfSpec)

/-- ITS FALSE NEIGHBOUR: 'it returns false'. Refute it at one input. -/
def integerOfWrong : ChangeSpec := { name := "integerOf", fn := fun _ => fun
  | [d] => { results := [.lit (.bool false)], args := [d] }
  | _ => none }
def IntegerOfWrongFalsely : Prop := integerOfRow.holds Try.pinned (OpenSpec.ofChange integerOfWrong)

/-- 'sederuntlaw01.IntegerValid': WHATEVER THE INPUT: true; the input reads as it did. -/
def integerValidSpec : ChangeSpec := { name := "integerValid", fn := fun _ => fun
  | [d] => { results := [.lit (.bool true)], args := [d] }
  | _ => none }
def integerValidRow : OpenClaim := { program := "ytnelnobcecnhlaa", sum := "d17e9c465b9046f0fb675430df01c0ac8fbac67241107490705c80d2e9ad800f", func := "sederunt/sederuntlaw01.IntegerValid", spec := "integerValid", unfollowed := true, recurses := true, apart := false }
def IntegerValidSaid : Prop := integerValidRow.holds Try.pinned (OpenSpec.ofChange integerValidSpec)

/-- ITS FALSE NEIGHBOUR: 'it returns false'. Refute it at one input. -/
def integerValidWrong : ChangeSpec := { name := "integerValid", fn := fun _ => fun
  | [d] => { results := [.lit (.bool false)], args := [d] }
  | _ => none }
def IntegerValidWrongFalsely : Prop := integerValidRow.holds Try.pinned (OpenSpec.ofChange integerValidWrong)

/-- 'sederuntlaw01.IntegerSum': WHATEVER THE INPUT: true; the input reads as it did. -/
def integerSumSpec : ChangeSpec := { name := "integerSum", fn := fun _ => fun
  | [d1, d2] => { results := [.lit (.bool true)], args := [d1, d2] }
  | _ => none }
def integerSumRow : OpenClaim := { program := "ytnelnobcecnhlaa", sum := "d17e9c465b9046f0fb675430df01c0ac8fbac67241107490705c80d2e9ad800f", func := "sederunt/sederuntlaw01.IntegerSum", spec := "integerSum", unfollowed := true, recurses := true, apart := false }
def IntegerSumSaid : Prop := integerSumRow.holds Try.pinned (OpenSpec.ofChange integerSumSpec)

/-- ITS FALSE NEIGHBOUR: 'it returns false'. Refute it at one input. -/
def integerSumWrong : ChangeSpec := { name := "integerSum", fn := fun _ => fun
  | [d1, d2] => { results := [.lit (.bool false)], args := [d1, d2] }
  | _ => none }
def IntegerSumWrongFalsely : Prop := integerSumRow.holds Try.pinned (OpenSpec.ofChange integerSumWrong)

/-- 'sederuntlaw01.IntegerProduct': WHATEVER THE INPUT: true; the input reads as it did. -/
def integerProductSpec : ChangeSpec := { name := "integerProduct", fn := fun _ => fun
  | [d1, d2] => { results := [.lit (.bool true)], args := [d1, d2] }
  | _ => none }
def integerProductRow : OpenClaim := { program := "ytnelnobcecnhlaa", sum := "d17e9c465b9046f0fb675430df01c0ac8fbac67241107490705c80d2e9ad800f", func := "sederunt/sederuntlaw01.IntegerProduct", spec := "integerProduct", unfollowed := true, recurses := true, apart := false }
def IntegerProductSaid : Prop := integerProductRow.holds Try.pinned (OpenSpec.ofChange integerProductSpec)

/-- ITS FALSE NEIGHBOUR: 'it returns false'. Refute it at one input. -/
def integerProductWrong : ChangeSpec := { name := "integerProduct", fn := fun _ => fun
  | [d1, d2] => { results := [.lit (.bool false)], args := [d1, d2] }
  | _ => none }
def IntegerProductWrongFalsely : Prop := integerProductRow.holds Try.pinned (OpenSpec.ofChange integerProductWrong)

/-- 'sederuntlaw01.IntegerDivision': WHATEVER THE INPUT: true; the input reads as it did. -/
def integerDivisionSpec : ChangeSpec := { name := "integerDivision", fn := fun _ => fun
  | [d1, d2] => { results := [.lit (.bool true)], args := [d1, d2] }
  | _ => none }
def integerDivisionRow : OpenClaim := { program := "ytnelnobcecnhlaa", sum := "d17e9c465b9046f0fb675430df01c0ac8fbac67241107490705c80d2e9ad800f", func := "sederunt/sederuntlaw01.IntegerDivision", spec := "integerDivision", unfollowed := true, recurses := true, apart := false }
def IntegerDivisionSaid : Prop := integerDivisionRow.holds Try.pinned (OpenSpec.ofChange integerDivisionSpec)

/-- ITS FALSE NEIGHBOUR: 'it returns false'. Refute it at one input. -/
def integerDivisionWrong : ChangeSpec := { name := "integerDivision", fn := fun _ => fun
  | [d1, d2] => { results := [.lit (.bool false)], args := [d1, d2] }
  | _ => none }
def IntegerDivisionWrongFalsely : Prop := integerDivisionRow.holds Try.pinned (OpenSpec.ofChange integerDivisionWrong)

/-- 'sederuntlaw01.IntegerGcd': WHATEVER THE INPUT: true; the input reads as it did. -/
def integerGcdSpec : ChangeSpec := { name := "integerGcd", fn := fun _ => fun
  | [d1, d2] => { results := [.lit (.bool true)], args := [d1, d2] }
  | _ => none }
def integerGcdRow : OpenClaim := { program := "ytnelnobcecnhlaa", sum := "d17e9c465b9046f0fb675430df01c0ac8fbac67241107490705c80d2e9ad800f", func := "sederunt/sederuntlaw01.IntegerGcd", spec := "integerGcd", unfollowed := true, recurses := true, apart := false }
def IntegerGcdSaid : Prop := integerGcdRow.holds Try.pinned (OpenSpec.ofChange integerGcdSpec)

/-- ITS FALSE NEIGHBOUR: 'it returns false'. Refute it at one input. -/
def integerGcdWrong : ChangeSpec := { name := "integerGcd", fn := fun _ => fun
  | [d1, d2] => { results := [.lit (.bool false)], args := [d1, d2] }
  | _ => none }
def IntegerGcdWrongFalsely : Prop := integerGcdRow.holds Try.pinned (OpenSpec.ofChange integerGcdWrong)

/-- 'sederuntlaw01.IntegerOrder': WHATEVER THE INPUT: true; the input reads as it did. -/
def integerOrderSpec : ChangeSpec := { name := "integerOrder", fn := fun _ => fun
  | [d1, d2, d3] => { results := [.lit (.bool true)], args := [d1, d2, d3] }
  | _ => none }
def integerOrderRow : OpenClaim := { program := "ytnelnobcecnhlaa", sum := "d17e9c465b9046f0fb675430df01c0ac8fbac67241107490705c80d2e9ad800f", func := "sederunt/sederuntlaw01.IntegerOrder", spec := "integerOrder", unfollowed := true, recurses := true, apart := false }
def IntegerOrderSaid : Prop := integerOrderRow.holds Try.pinned (OpenSpec.ofChange integerOrderSpec)

/-- ITS FALSE NEIGHBOUR: 'it returns false'. Refute it at one input. -/
def integerOrderWrong : ChangeSpec := { name := "integerOrder", fn := fun _ => fun
  | [d1, d2, d3] => { results := [.lit (.bool false)], args := [d1, d2, d3] }
  | _ => none }
def IntegerOrderWrongFalsely : Prop := integerOrderRow.holds Try.pinned (OpenSpec.ofChange integerOrderWrong)

/- THE SECOND FORM. 'bulk': how many values and letters a reading holds, each counted each time it is reached (what is shared counts as often as it is met; a slice's spare places count too). A statement '..UptoSaid' is the law's where the arguments, and the package variables that the reading takes, are together of bulk at most 1048576: NARROWER than '..Said'. Prove '..Said' where nothing that the law and all that it calls make is longer than what came in: it says more and counts as full. Else prove '..UptoSaid'. A law counts once. -/
mutual
def uptoBulk {H : Type} : DataW H → Nat
  | .lit (.string bytes) => bytes.length + 1
  | .lit _ => 1
  | .nil => 1
  | .ptr d => uptoBulk d + 1
  | .slice elems spare => uptoBulkAll elems + uptoBulkAll spare + 1
  | .agg parts => uptoBulkAll parts + 1
  | .iface _ d => uptoBulk d + 1
  | .map entries => uptoBulkEntries entries + 1
  | .held _ => 1
def uptoBulkAll {H : Type} : List (DataW H) → Nat
  | [] => 0
  | d :: r => uptoBulk d + uptoBulkAll r
def uptoBulkEntries {H : Type} : List (Lit × DataW H) → Nat
  | [] => 0
  | x :: r => uptoBulkEntry x + uptoBulkEntries r
def uptoBulkEntry {H : Type} : Lit × DataW H → Nat
  | (.string bytes, d) => bytes.length + uptoBulk d + 1
  | (_, d) => uptoBulk d + 1
 end
def uptoSmall : (H : Type) → List (DataW H) → Bool := fun _ ds => decide (uptoBulkAll ds ≤ 1048576)
def OpenSpec.upto (s : _root_.Go.ChangeSpec) : _root_.Go.OpenSpec := { _root_.Go.OpenSpec.ofChange s with cond := some uptoSmall }

/-- 'sederuntlaw01.IntegerOf', WHERE WHAT IT READS IS OF BULK AT MOST 1048576: true; the input reads as it did. -/
def integerOfUptoRow : OpenClaim := { program := "ytnelnobcecnhlaa", sum := "d17e9c465b9046f0fb675430df01c0ac8fbac67241107490705c80d2e9ad800f", func := "sederunt/sederuntlaw01.IntegerOf", spec := "integerOf", unfollowed := true, recurses := true, apart := false, narrowed := true }
def IntegerOfUptoSaid : Prop := integerOfUptoRow.holds Try.pinned (OpenSpec.upto integerOfSpec)

/-- 'sederuntlaw01.IntegerValid', WHERE WHAT IT READS IS OF BULK AT MOST 1048576: true; the input reads as it did. -/
def integerValidUptoRow : OpenClaim := { program := "ytnelnobcecnhlaa", sum := "d17e9c465b9046f0fb675430df01c0ac8fbac67241107490705c80d2e9ad800f", func := "sederunt/sederuntlaw01.IntegerValid", spec := "integerValid", unfollowed := true, recurses := true, apart := false, narrowed := true }
def IntegerValidUptoSaid : Prop := integerValidUptoRow.holds Try.pinned (OpenSpec.upto integerValidSpec)

/-- 'sederuntlaw01.IntegerSum', WHERE WHAT IT READS IS OF BULK AT MOST 1048576: true; the input reads as it did. -/
def integerSumUptoRow : OpenClaim := { program := "ytnelnobcecnhlaa", sum := "d17e9c465b9046f0fb675430df01c0ac8fbac67241107490705c80d2e9ad800f", func := "sederunt/sederuntlaw01.IntegerSum", spec := "integerSum", unfollowed := true, recurses := true, apart := false, narrowed := true }
def IntegerSumUptoSaid : Prop := integerSumUptoRow.holds Try.pinned (OpenSpec.upto integerSumSpec)

/-- 'sederuntlaw01.IntegerProduct', WHERE WHAT IT READS IS OF BULK AT MOST 1048576: true; the input reads as it did. -/
def integerProductUptoRow : OpenClaim := { program := "ytnelnobcecnhlaa", sum := "d17e9c465b9046f0fb675430df01c0ac8fbac67241107490705c80d2e9ad800f", func := "sederunt/sederuntlaw01.IntegerProduct", spec := "integerProduct", unfollowed := true, recurses := true, apart := false, narrowed := true }
def IntegerProductUptoSaid : Prop := integerProductUptoRow.holds Try.pinned (OpenSpec.upto integerProductSpec)

/-- 'sederuntlaw01.IntegerDivision', WHERE WHAT IT READS IS OF BULK AT MOST 1048576: true; the input reads as it did. -/
def integerDivisionUptoRow : OpenClaim := { program := "ytnelnobcecnhlaa", sum := "d17e9c465b9046f0fb675430df01c0ac8fbac67241107490705c80d2e9ad800f", func := "sederunt/sederuntlaw01.IntegerDivision", spec := "integerDivision", unfollowed := true, recurses := true, apart := false, narrowed := true }
def IntegerDivisionUptoSaid : Prop := integerDivisionUptoRow.holds Try.pinned (OpenSpec.upto integerDivisionSpec)

/-- 'sederuntlaw01.IntegerGcd', WHERE WHAT IT READS IS OF BULK AT MOST 1048576: true; the input reads as it did. -/
def integerGcdUptoRow : OpenClaim := { program := "ytnelnobcecnhlaa", sum := "d17e9c465b9046f0fb675430df01c0ac8fbac67241107490705c80d2e9ad800f", func := "sederunt/sederuntlaw01.IntegerGcd", spec := "integerGcd", unfollowed := true, recurses := true, apart := false, narrowed := true }
def IntegerGcdUptoSaid : Prop := integerGcdUptoRow.holds Try.pinned (OpenSpec.upto integerGcdSpec)

/-- 'sederuntlaw01.IntegerOrder', WHERE WHAT IT READS IS OF BULK AT MOST 1048576: true; the input reads as it did. -/
def integerOrderUptoRow : OpenClaim := { program := "ytnelnobcecnhlaa", sum := "d17e9c465b9046f0fb675430df01c0ac8fbac67241107490705c80d2e9ad800f", func := "sederunt/sederuntlaw01.IntegerOrder", spec := "integerOrder", unfollowed := true, recurses := true, apart := false, narrowed := true }
def IntegerOrderUptoSaid : Prop := integerOrderUptoRow.holds Try.pinned (OpenSpec.upto integerOrderSpec)

end Rows
end Go.Proofs.Ytnelnobcecnhlaa
