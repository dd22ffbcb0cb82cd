/- What the model's operations on the bits of uint32 are on natural numbers. -/
import Derived.Test.YtdnhecgjfanakaaDoorStr
import Derived.Test.YtdnhecgjfanakaaDoorSha
namespace Go.Proofs.YtdnhecgjfanakaaDoor
open Go.RowKit

theorem wrap32 (n : Int) : IntKind.u32.wrap n = n % 4294967296 := by simp [IntKind.wrap, IntKind.bits, IntKind.signed]
theorem ofInt32 (a : Nat) : (BitVec.ofInt 32 (a : Int)).toNat = a % 2 ^ 32 := by rw [BitVec.ofInt_natCast, BitVec.toNat_ofNat]
theorem xor_c (a b : Nat) : bits .xor .u32 (a : Int) (b : Int) = (((a ^^^ b) % 4294967296 : Nat) : Int) := by
  show IntKind.u32.wrap ((BitVec.ofInt 32 (a : Int) ^^^ BitVec.ofInt 32 (b : Int)).toNat : Int) = _
  rw [BitVec.toNat_xor, ofInt32, ofInt32, ← Nat.xor_mod_two_pow, wrap32]
  omega
theorem and_c (a b : Nat) : bits .and .u32 (a : Int) (b : Int) = (((a &&& b) % 4294967296 : Nat) : Int) := by
  show IntKind.u32.wrap ((BitVec.ofInt 32 (a : Int) &&& BitVec.ofInt 32 (b : Int)).toNat : Int) = _
  rw [BitVec.toNat_and, ofInt32, ofInt32, ← Nat.and_mod_two_pow, wrap32]
  omega
theorem or_c (a b : Nat) : bits .or .u32 (a : Int) (b : Int) = (((a ||| b) % 4294967296 : Nat) : Int) := by
  show IntKind.u32.wrap ((BitVec.ofInt 32 (a : Int) ||| BitVec.ofInt 32 (b : Int)).toNat : Int) = _
  rw [BitVec.toNat_or, ofInt32, ofInt32, ← Nat.or_mod_two_pow, wrap32]
  omega
theorem xor_n {a b : Nat} (ha : a < 4294967296) (hb : b < 4294967296) : bits .xor .u32 (a : Int) (b : Int) = ((a ^^^ b : Nat) : Int) := by
  rw [xor_c, Nat.mod_eq_of_lt (Nat.xor_lt_two_pow (n := 32) ha hb)]
theorem and_15 (a : Nat) : bits .and .u32 (a : Int) 15 = ((a % 16 : Nat) : Int) := by
  have := and_c a 15
  rw [show ((15 : Nat) : Int) = 15 from rfl] at this
  rw [this, Nat.and_two_pow_sub_one_eq_mod a 4]
  omega
theorem and_1 (a : Nat) : bits .and .u32 (a : Int) 1 = ((a % 2 : Nat) : Int) := by
  have := and_c a 1
  rw [show ((1 : Nat) : Int) = 1 from rfl] at this
  rw [this, Nat.and_two_pow_sub_one_eq_mod a 1]
  omega

theorem not_n {a : Nat} (ha : a < 4294967296) : bits .xor .u32 IntKind.u32.max (a : Int) = ((a ^^^ 4294967295 : Nat) : Int) := by
  rw [show IntKind.u32.max = ((4294967295 : Nat) : Int) from rfl, xor_n (by decide) ha, Nat.xor_comm]
theorem not_c (a : Nat) : bits .xor .u32 IntKind.u32.max (a : Int) = (((4294967295 ^^^ a) % 4294967296 : Nat) : Int) := by
  rw [show IntKind.u32.max = ((4294967295 : Nat) : Int) from rfl, xor_c]
theorem xor8_n {a b : Nat} (ha : a < 256) (hb : b < 256) : bits .xor .u8 (a : Int) (b : Int) = ((a ^^^ b : Nat) : Int) := by
  have hx : a ^^^ b < 2 ^ 8 := Nat.xor_lt_two_pow (n := 8) (by omega) (by omega)
  have h1 : (BitVec.ofInt 8 (a : Int)).toNat = a := by rw [BitVec.ofInt_natCast, BitVec.toNat_ofNat]; exact Nat.mod_eq_of_lt (by omega)
  have h2 : (BitVec.ofInt 8 (b : Int)).toNat = b := by rw [BitVec.ofInt_natCast, BitVec.toNat_ofNat]; exact Nat.mod_eq_of_lt (by omega)
  show IntKind.u8.wrap ((BitVec.ofInt 8 (a : Int) ^^^ BitVec.ofInt 8 (b : Int)).toNat : Int) = _
  rw [BitVec.toNat_xor, h1, h2, show ∀ n : Int, IntKind.u8.wrap n = n % 256 from fun n => by simp [IntKind.wrap, IntKind.bits, IntKind.signed]]
  omega
theorem sh_odd {y : Nat} (h : y % 2 = 1) : sh y = y / 2 ^^^ 3988292384 := by unfold sh; rw [if_pos h]
theorem sh_even {y : Nat} (h : y % 2 ≠ 1) : sh y = y / 2 := by unfold sh; rw [if_neg h]
theorem sh_odd_i {y : Nat} (h : y % 2 = 1) (hy : y < 4294967296) : bits .xor .u32 ((y : Int) / 2) 3988292384 = ((sh y : Nat) : Int) := by
  rw [show ((y : Int) / 2) = ((y / 2 : Nat) : Int) from rfl, show (3988292384 : Int) = ((3988292384 : Nat) : Int) from rfl, xor_n (by omega) (by decide), sh_odd h]

/-- One round of Crc: its values by their names. -/
structure CrcNames (r b q t1 q1 t2 q2 : Nat) : Prop where
  q_ : q = r ^^^ b
  t1_ : t1 = shn 4 (q % 16)
  q1_ : q1 = q / 16 ^^^ t1
  t2_ : t2 = shn 4 (q1 % 16)
  q2_ : q2 = q1 / 16 ^^^ t2
theorem CrcNames.step {r b q t1 q1 t2 q2 : Nat} (h : CrcNames r b q t1 q1 t2 q2) : q2 = crcStep r b := by
  obtain ⟨rfl, rfl, rfl, rfl, rfl⟩ := h
  unfold crcStep
  rw [show shn 8 (r ^^^ b) = shn 4 (shn 4 (r ^^^ b)) from shn_add 4 4 _, shn_tab (r ^^^ b), ← shn_tab]
theorem crc_names (r b : Nat) (hr : r < 4294967296) (hb : b < 256) : ∃ q t1 q1 t2 q2, CrcNames r b q t1 q1 t2 q2 ∧ q < 4294967296 ∧ q1 < 4294967296 ∧ q2 < 4294967296 ∧
    bits .xor .u32 (r : Int) (b : Int) = (q : Int) ∧ bits .xor .u32 ((q : Int) / 16) (t1 : Int) = (q1 : Int) ∧ bits .xor .u32 ((q1 : Int) / 16) (t2 : Int) = (q2 : Int) := by
  have h1 : r ^^^ b < 4294967296 := Nat.xor_lt_two_pow (n := 32) hr (by omega)
  have ht : ∀ x, shn 4 (x % 16) < 4294967296 := fun x => shn_lt (x := x % 16) 4 (by omega)
  have h2 : (r ^^^ b) / 16 ^^^ shn 4 ((r ^^^ b) % 16) < 4294967296 := Nat.xor_lt_two_pow (n := 32) (by omega) (ht _)
  refine ⟨_, _, _, _, _, ⟨rfl, rfl, rfl, rfl, rfl⟩, h1, h2, Nat.xor_lt_two_pow (n := 32) (by omega) (ht _), xor_n hr (by omega), ?_, ?_⟩
  · rw [show (((r ^^^ b : Nat) : Int) / 16) = (((r ^^^ b) / 16 : Nat) : Int) from rfl]
    exact xor_n (by omega) (ht _)
  · generalize (r ^^^ b) / 16 ^^^ shn 4 ((r ^^^ b) % 16) = z at h2 ⊢
    rw [show ((z : Int) / 16) = ((z / 16 : Nat) : Int) from rfl]
    exact xor_n (by omega) (ht _)
def halves : List Int := [0, 498536548, 997073096, 651767980, 1994146192, 1802195444, 1303535960, 1342533948, 3988292384, 4027552580, 3604390888, 3412177804, 2607071920, 2262029012, 2685067896, 3183342108]
/-- The package's tables lie in the world. -/
structure Tabs (w : World) : Prop where
  half : ∀ i, i < 16 → w.cell? ⟨1, i, none⟩ = some (.int .u32 ((shn 4 i : Nat) : Int))
  cube : ∀ i, i < 64 → w.cell? ⟨2, i, none⟩ = some (.int .u32 ((cubes.getD i 0 : Nat) : Int))
  root : ∀ i, i < 8 → w.cell? ⟨0, i, none⟩ = some (.int .u32 ((startSt.list.getD i 0 : Nat) : Int))
theorem Tabs.lt {w : World} (h : Tabs w) : 3 ≤ w.heap.size := by
  have h1 := World.block_lt_of_cell? w _ (h.half 0 (by decide))
  have h2 := World.block_lt_of_cell? w _ (h.cube 0 (by decide))
  have h3 := World.block_lt_of_cell? w _ (h.root 0 (by decide))
  simp at h1 h2 h3
  omega
theorem Tabs.keep {w w' : World} (h : Tabs w) (hc : ∀ g i, g < 3 → w'.cell? ⟨g, i, none⟩ = w.cell? ⟨g, i, none⟩) : Tabs w' :=
  ⟨fun i hi => (hc _ i (by decide)).trans (h.half i hi), fun i hi => (hc _ i (by decide)).trans (h.cube i hi), fun i hi => (hc _ i (by decide)).trans (h.root i hi)⟩
theorem Tabs.up {w w' : World} (h : Tabs w) (hu : Up w w') : Tabs w' := h.keep fun g i hg => hu.cell (by have := h.lt; show g < _; omega)
end Go.Proofs.YtdnhecgjfanakaaDoor
