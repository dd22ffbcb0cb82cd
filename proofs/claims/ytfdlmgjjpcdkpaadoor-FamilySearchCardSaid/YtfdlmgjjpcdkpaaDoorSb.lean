/- Words on the values of sets in memory, and what the operations on 16 bits are on numbers. -/
import Derived.Test.YtfdlmgjjpcdkpaaDoorF
import Derived.Test.YtfdlmgjjpcdkpaaDoorRg
namespace Go.Proofs.YtfdlmgjjpcdkpaaDoor
open Go.RowKit

theorem wrap16 (n : Int) : IntKind.u16.wrap n = n % 65536 := by simp [IntKind.wrap, IntKind.bits, IntKind.signed]
theorem ofInt16 (a : Nat) : (BitVec.ofInt 16 (a : Int)).toNat = a % 2 ^ 16 := by rw [BitVec.ofInt_natCast, BitVec.toNat_ofNat]
theorem and16 {a b : Nat} (ha : a < 65536) : bits .and .u16 (a : Int) (b : Int) = ((a &&& b : Nat) : Int) := by
  show IntKind.u16.wrap ((BitVec.ofInt 16 (a : Int) &&& BitVec.ofInt 16 (b : Int)).toNat : Int) = _
  rw [BitVec.toNat_and, ofInt16, ofInt16, ← Nat.and_mod_two_pow, wrap16]
  have : a &&& b ≤ a := Nat.and_le_left
  omega
theorem or16 {a b : Nat} (ha : a < 65536) (hb : b < 65536) : bits .or .u16 (a : Int) (b : Int) = ((a ||| b : Nat) : Int) := by
  show IntKind.u16.wrap ((BitVec.ofInt 16 (a : Int) ||| BitVec.ofInt 16 (b : Int)).toNat : Int) = _
  rw [BitVec.toNat_or, ofInt16, ofInt16, ← Nat.or_mod_two_pow, wrap16]
  have : a ||| b < 2 ^ 16 := Nat.or_lt_two_pow ha hb
  omega
theorem xor16 {a b : Nat} (ha : a < 65536) (hb : b < 65536) : bits .xor .u16 (a : Int) (b : Int) = ((a ^^^ b : Nat) : Int) := by
  show IntKind.u16.wrap ((BitVec.ofInt 16 (a : Int) ^^^ BitVec.ofInt 16 (b : Int)).toNat : Int) = _
  rw [BitVec.toNat_xor, ofInt16, ofInt16, ← Nat.xor_mod_two_pow, wrap16]
  have : a ^^^ b < 2 ^ 16 := Nat.xor_lt_two_pow ha hb
  omega

theorem pow16 {k : Nat} (hk : k < 16) : IntKind.u16.wrap ((2 : Int) ^ k) = ((2 ^ k : Nat) : Int) := by
  have e : (2 : Int) ^ k = ((2 ^ k : Nat) : Int) := by rw [Int.natCast_pow]; rfl
  have : 2 ^ k < 2 ^ 16 := Nat.pow_lt_pow_right (by omega) hk
  rw [e, wrap16]
  obtain ⟨n, hn⟩ : ∃ n, 2 ^ k = n := ⟨_, rfl⟩
  rw [hn] at this ⊢
  omega
theorem and_pow (a k : Nat) : a &&& 2 ^ k = if a.testBit k then 2 ^ k else 0 := by
  apply Nat.eq_of_testBit_eq
  intro i
  rw [Nat.testBit_and, Nat.testBit_two_pow]
  by_cases h : k = i
  · subst h
    cases hb : a.testBit k <;> simp
  · cases hb : a.testBit k <;> simp [h]
theorem bit16 {a k : Nat} (ha : a < 65536) (hk : k < 16) : (bits .and .u16 (a : Int) (IntKind.u16.wrap ((2 : Int) ^ k)) != 0) = a.testBit k := by
  rw [pow16 hk, and16 ha, and_pow]
  cases a.testBit k with
  | false => simp
  | true =>
    have := Nat.two_pow_pos k
    obtain ⟨n, hn⟩ : ∃ n, 2 ^ k = n := ⟨_, rfl⟩
    rw [hn] at this ⊢
    simp
    omega
theorem or16k {a k : Nat} (ha : a < 65536) (hk : k < 16) : bits .or .u16 (a : Int) (IntKind.u16.wrap ((2 : Int) ^ k)) = ((a ||| 2 ^ k : Nat) : Int) := by
  rw [pow16 hk, or16 ha (show 2 ^ k < 2 ^ 16 from Nat.pow_lt_pow_right (by omega) hk)]
theorem grownBy_drewN (w : World) (n : Nat) : w.grownBy (w.drewN n) none := ⟨rfl, rfl, rfl, Nat.le_refl _, fun _ _ _ => rfl⟩
theorem grow_some {w w' : World} {r : Nat} (h : w.grownBy w' none) : w.grownBy w' (some r) := ⟨h.os, h.tape, h.output, h.size, fun k hk _ => h.block k hk (by simp)⟩
/-- A set as a value. -/
def sv (s : Nat) : Value := .int .u16 (s : Int)
/-- A row of sets. -/
def us (l : List Nat) : List Value := l.map sv
/-- A row of numbers of servers. -/
def ns (l : List Nat) : List Value := is (l.map Int.ofNat)
theorem ns_len (l : List Nat) : (ns l).length = l.length := by unfold ns; rw [is_len, List.length_map]
theorem us_len (l : List Nat) : (us l).length = l.length := by simp [us]
theorem us_append (l m : List Nat) : us (l ++ m) = us l ++ us m := by simp [us]
theorem ns_append (l m : List Nat) : ns (l ++ m) = ns l ++ ns m := by unfold ns; rw [List.map_append, is_append]
theorem us_one (l : List Nat) : ∀ u ∈ us l, u.oneCell' = true := by
  intro u hu
  simp only [us, List.mem_map] at hu
  obtain ⟨x, _, rfl⟩ := hu
  rfl
theorem Tryd.info28 : (Tryd.prog.info? 28).map (fun i => (i.zero, i.size, i.bytes)) = some (some (.int .u16 0), 1, 2) := by kernel_rfl

/-- A number put into a set: the set and the error. -/
def addS (acc : Nat) (i : Int) : Nat × Int := if i < 0 ∨ 12 ≤ i then (acc, 7) else if acc.testBit i.toNat then (acc, 5) else (acc ||| 2 ^ i.toNat, 0)

end Go.Proofs.YtfdlmgjjpcdkpaaDoor
