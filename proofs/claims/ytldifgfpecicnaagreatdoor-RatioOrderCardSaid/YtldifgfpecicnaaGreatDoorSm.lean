/- Small fractions: what the laws of arithmetic and order ask. -/
import Derived.Test.YtldifgfpecicnaaGreatDoorR16
import Derived.Test.YtldifgfpecicnaaGreatDoorRInv
import Derived.Test.YtldifgfpecicnaaGreatDoorRMd
import Derived.Test.YtldifgfpecicnaaGreatDoorR8
namespace Go.Proofs.YtldifgfpecicnaaGreatDoor
open Go.RowKit

theorem nm_fr {p q : Int} (hq : q ≠ 0) : nm (fr p q) = 0 ↔ p = 0 := by
  have h := (fr_eq (a := nm (fr p q)) (b := dn (fr p q)) (c := p) (d := q) (dn_ne _) hq).1 (fr_self _)
  constructor
  · intro e
    rw [e, Int.zero_mul] at h
    rcases Int.mul_eq_zero.1 h.symm with h | h
    · exact h
    · exact absurd h (dn_ne _)
  · intro e
    subst e
    rw [Int.zero_mul] at h
    rcases Int.mul_eq_zero.1 h with h | h
    · exact h
    · exact absurd h hq
theorem smallR {w : World} {a b : Int} {r : Rat} (hr : r = fr a (b + 1)) (h1 : -32768 ≤ a) (h2 : a ≤ 32767) (h3 : 0 ≤ b) (h4 : b ≤ 255) : Calls Tryz.prog 36 #[.int .i16 a, .int .u8 b] w (PRz w r) := by
  subst hr
  have hR : makeR a (b + 1) = ⟨0, nm (fr a (b + 1)), dn (fr a (b + 1))⟩ := by unfold makeR; rw [if_neg (by omega)]; rfl
  exact (small_ a b _ _ w h1 h2 h3 h4 hR).mono fun e w' hr => hr
theorem smallS {a b : Int} {r : Rat} (hr : r = fr a (b + 1)) (h1 : -32768 ≤ a) (h2 : a ≤ 32767) (h3 : 0 ≤ b) (h4 : b ≤ 255) : Sm r 32768 256 := by
  subst hr
  exact Sm.fr (by omega) (by omega) (by omega)
section
variable {w : World} {v v' : Value} {a b r : Rat}
theorem addOK (h : Rz w v a) (h' : Rz w v' b) (e : Hid (addR a b = okR r)) : Calls Tryz.prog 24 #[v, v'] w (PFE w (nm r) (dn r) 0) := by
  have := addRQ v v' w h h'
  rw [e.out] at this; exact this
theorem subOK (h : Rz w v a) (h' : Rz w v' b) (e : Hid (subR a b = okR r)) : Calls Tryz.prog 25 #[v, v'] w (PFE w (nm r) (dn r) 0) := by
  have := subRQ v v' w h h'
  rw [e.out] at this; exact this
theorem mulOK (h : Rz w v a) (h' : Rz w v' b) (e : Hid (mulR a b = okR r)) : Calls Tryz.prog 26 #[v, v'] w (PFE w (nm r) (dn r) 0) := by
  have := mulRQ v v' w h h'
  rw [e.out] at this; exact this
theorem divOK (h : Rz w v a) (h' : Rz w v' b) (e : Hid (divR a b = okR r)) : Calls Tryz.prog 27 #[v, v'] w (PFE w (nm r) (dn r) 0) := by
  have := divRQ h h'
  rw [e.out] at this; exact this
theorem divNO (h : Rz w v a) (h' : Rz w v' b) (e : Hid (divR a b = noR 8)) : Calls Tryz.prog 27 #[v, v'] w (PFE w 0 0 8) := by
  have := divRQ h h'
  rw [e.out] at this; exact this
theorem cmpOK (h : Rz w v a) (h' : Rz w v' b) (x : Int) (e : Hid (cmpV a b = x ∧ cmpE a b = 0)) : Calls Tryz.prog 23 #[v, v'] w (PNE w x 0) := by
  have := cmpRQ h h'
  rw [e.out.1, e.out.2] at this; exact this
end
theorem i16_wf {n : Int} (h : (Lit.int .i16 n).wf = true) : -32768 ≤ n ∧ n ≤ 32767 := by
  have h1 : IntKind.i16.min = -32768 := rfl
  have h2 : IntKind.i16.max = 32767 := rfl
  simp [Lit.wf, h1, h2] at h
  omega
theorem u8_wf {n : Int} (h : (Lit.int .u8 n).wf = true) : 0 ≤ n ∧ n ≤ 255 := by
  have h1 : IntKind.u8.min = 0 := rfl
  have h2 : IntKind.u8.max = 255 := rfl
  simp [Lit.wf, h1, h2] at h
  omega

end Go.Proofs.YtldifgfpecicnaaGreatDoor
