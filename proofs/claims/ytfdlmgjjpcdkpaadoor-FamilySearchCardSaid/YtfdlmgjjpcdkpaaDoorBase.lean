/- Plain words on memory: a slice of uint8 that reads as a list of numbers, an integer that reads as a sign and limbs, and how they are kept when the world grows. -/
import Derived.Test.YtfdlmgjjpcdkpaaDoorRows
import Derived.Test.YtfdlmgjjpcdkpaaDoorSa
import Derived.WalkKit
import Derived.WalkSpells
import Derived.WalkLawsBesides
import Derived.Lib.Hide
import Derived.Deep.Draws
import Derived.Deep.AppendLies
import Derived.Deep.QuietTactic
import Derived.BigQuiet
namespace Go.Proofs.YtfdlmgjjpcdkpaaDoor
open Go.RowKit

theorem Tryd.info5 : (Tryd.prog.info? 5).map (fun i => (i.zero, i.size, i.bytes)) = some (some (.int .u8 0), 1, 1) := by kernel_rfl

/-- The world has grown: nothing that was there has changed. -/
def Up (w w' : World) : Prop := Below w.heap.size w w'
theorem Up.refl (w : World) : Up w w := Below.refl _ _
theorem Up.size {w w' : World} (h : Up w w') : w.heap.size ≤ w'.heap.size := Below.size h
theorem Up.trans {a b c : World} (h : Up a b) (k : Up b c) : Up a c := Below.trans h (Below.mono k h.size)
theorem Up.alloc {a w : World} (h : Up a w) (o : Obj) : Up a (w.alloc o) := Below.alloc h h.size o
theorem Up.drew {a w : World} (h : Up a w) : Up a w.drew := Below.drew h
theorem Up.drewN {a w : World} (h : Up a w) (n : Nat) : Up a (w.drewN n) := ⟨h.os, h.tape, h.output, h.size, h.block⟩
theorem Up.cell {w w' : World} (h : Up w w') {p : Addr} (hp : p.block < w.heap.size) : w'.cell? p = w.cell? p := Below.cell h hp
theorem Up.frozen {w w' : World} (h : Up w w') {p : Addr} (hp : p.block < w.heap.size) : w'.frozen? p = w.frozen? p := Below.frozen h hp
theorem Up.setCell {a w : World} (h : Up a w) {p : Addr} (hp : a.heap.size ≤ p.block) (u : Value) : Up a (w.setCell p u) := Below.setCell h hp u
theorem Up.grown {a w w' : World} {row : Option Nat} (h : Up a w) (hg : w.grownBy w' row) (hr : ∀ k, row = some k → a.heap.size ≤ k) : Up a w' := Below.grown h hg h.size hr

theorem addBlock (a : Addr) (n : Nat) : (a.add n).block = a.block := by unfold Addr.add; split <;> rfl
theorem addAdd (a : Addr) (i j : Nat) : (a.add i).add j = a.add (i + j) := by
  unfold Addr.add
  by_cases hi : i = 0 <;> by_cases hj : j = 0 <;> simp [hi, hj, Nat.add_assoc]

/-- The slice at A, of l's length, reads as the numbers l, in blocks that are there. -/
def Lim (w : World) (A : Option Addr) (l : List Nat) : Prop :=
  l = [] ∨ ∃ ad, A = some ad ∧ ad.block < w.heap.size ∧ ∀ (j x : Nat), l[j]? = some x → w.cell? (ad.add j) = some (.int .u8 (x : Int))

theorem Lim.nil (w : World) (A : Option Addr) : Lim w A [] := Or.inl rfl
theorem Lim.at_ {w : World} {A : Option Addr} {l : List Nat} (h : Lim w A l) {k : Nat} (hk : k < l.length) :
    ∃ ad, A = some ad ∧ ad.block < w.heap.size ∧ w.cell? (ad.add k) = some (.int .u8 ((l.getD k 0 : Nat) : Int)) := by
  rcases h with rfl | ⟨ad, hA, hb, hc⟩
  · simp at hk
  · exact ⟨ad, hA, hb, by rw [hc k (l.getD k 0) (by simp [List.getD, hk])]⟩
theorem Lim.up {w w' : World} {A : Option Addr} {l : List Nat} (h : Lim w A l) (hu : Up w w') : Lim w' A l := by
  rcases h with rfl | ⟨ad, hA, hb, hc⟩
  · exact Or.inl rfl
  · exact Or.inr ⟨ad, hA, Nat.lt_of_lt_of_le hb hu.size, fun j x hx => (hu.cell (by rw [addBlock]; exact hb)).trans (hc j x hx)⟩
theorem Lim.take {w : World} {A : Option Addr} {l : List Nat} (h : Lim w A l) (n : Nat) : Lim w A (l.take n) := by
  rcases h with rfl | ⟨ad, hA, hb, hc⟩
  · left; simp
  · exact Or.inr ⟨ad, hA, hb, fun j x hx => hc j x (by rw [List.getElem?_take] at hx; split at hx <;> first | exact hx | cases hx)⟩

/-- A callee that leaves the world alone, met in a quiet region behind draws. -/
theorem quiet_add_left' {P : Program} {f : FuncId} {args : Array Value} {w : World} {a n : Nat} {v : Value} (h : Calls P f args (w.drewN (a + n)) fun e w' => e = .returned v ∧ w.drewN (a + n) = w') :
    Calls P f args (w.drewN (a + n)) fun e w'' => e = .returned v ∧ ∃ m, w'' = w.drewN (a + m) := h.mono fun _ _ ⟨he, hm⟩ => ⟨he, n, hm.symm⟩
end Go.Proofs.YtfdlmgjjpcdkpaaDoor
