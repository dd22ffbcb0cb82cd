/- Plain words on memory, the second part: rows of uint8 that the call itself makes. -/
import Derived.Test.YtfdlmgjjpcdkpaaDoorBase
namespace Go.Proofs.YtfdlmgjjpcdkpaaDoor
open Go.RowKit

theorem hide {p : Prop} (h : p) : Hid p := h
theorem cell_new (w : World) (v : Value) (t : TypeId) : (w.alloc (.cells #[v] t)).cell? ⟨w.heap.size, 0, none⟩ = some v := by unfold World.cell?; rw [heap_alloc_new]; rfl
/-- Numbers as cells of type uint8. -/
def u8s (l : List Nat) : List Value := l.map fun (x : Nat) => .int .u8 (x : Int)
theorem u8s_len (l : List Nat) : (u8s l).length = l.length := by simp [u8s]
theorem u8s_append (l m : List Nat) : u8s (l ++ m) = u8s l ++ u8s m := by simp [u8s]
theorem u8s_one (l : List Nat) : ∀ u ∈ u8s l, u.oneCell' = true := by
  intro u hu
  simp only [u8s, List.mem_map] at hu
  obtain ⟨x, _, rfl⟩ := hu
  rfl
theorem u8s_get {l : List Nat} {j x : Nat} (h : l[j]? = some x) : (u8s l)[j]? = some (.int .u8 (x : Int)) := by simp [u8s, h]

/-- The slice at A lies in block B or beyond. -/
def NewB (B : Nat) (A : Option Addr) : Prop := ∀ ad, A = some ad → B ≤ ad.block
theorem NewB.none_ (B : Nat) : NewB B none := fun _ h => by cases h
theorem NewB.mono {B B' : Nat} {A : Option Addr} (h : NewB B A) (hb : B' ≤ B) : NewB B' A := fun ad e => Nat.le_trans hb (h ad e)
/-- A store into another block. -/
theorem Lim.far {w : World} {A : Option Addr} {l : List Nat} {g j : Nat} (h : Lim w A l) (hn : NewB (g + 1) A) (u : Value) : Lim (w.setCell ⟨g, j, none⟩ u) A l := by
  rcases h with rfl | ⟨ad, rfl, hb, hc⟩
  · exact Or.inl rfl
  · have hg := hn ad rfl
    exact Or.inr ⟨ad, rfl, by simpa using hb, fun i x hx => (World.cell?_setCell_other w _ _ u (fun e => by
      have h1 := congrArg Addr.block e
      rw [addBlock] at h1
      simp at h1
      omega)).trans (hc i x hx)⟩
/-- An owned row of uint8 reads as its numbers. -/
theorem own_lim {w : World} {base : Nat} {v : Value} {n : Nat} {l : List Nat} (h : w.ownsRow base 5 1 v n (u8s l)) :
    ∃ A c, v = .slice A n c ∧ n ≤ c ∧ Lim w A l ∧ NewB base A := by
  obtain ⟨hl, hc⟩ := h
  rcases hc with ⟨rfl, rfl⟩ | ⟨g, cap, cur, rfl, hb, hg, hnc, hm, hs, ht⟩
  · rw [u8s_len] at hl
    exact ⟨none, 0, rfl, Nat.le_refl _, Or.inl (List.length_eq_zero_iff.1 (by omega)), NewB.none_ _⟩
  · refine ⟨_, cap, rfl, hnc, Or.inr ⟨_, rfl, ?_, fun j x hx => ?_⟩, fun ad e => by cases e; exact hb⟩
    · rcases Nat.lt_or_ge g w.heap.size with h1 | h1
      · exact h1
      · rw [Array.getElem?_eq_none h1] at hg; cases hg
    · have hu := u8s_get hx
      rw [← ht, List.getElem?_take] at hu
      have ha : ((⟨g, 0, none⟩ : Addr).add j) = ⟨g, j, none⟩ := by unfold Addr.add; split <;> simp_all
      rw [ha]
      split at hu
      · simp [World.cell?, hg, Array.getElem?_toList ▸ hu]
      · cases hu

theorem new_one (w : World) (x : Nat) (z : Int) (t : TypeId) (h : z = x) : ∀ j u, (u8s [x])[j]? = some u → (w.alloc (.cells #[.int .u8 z] t)).cell? ((⟨w.heap.size, 0, none⟩ : Addr).add j) = some u := by
  intro j u hj
  subst h
  match j, hj with
  | 0, hj =>
    simp [u8s] at hj
    subst hj
    exact cell_new _ _ _
theorem up_append {w wr w1 : World} {e : TypeId} {v : Value} {n : Nat} {xs : List Value} {o : Obj} (hup : Up w wr) (hown : wr.ownsRow w.heap.size e 1 v n xs) (hg : (wr.alloc o).grownBy w1 v.ownBlock) : Up w w1 :=
  (hup.alloc o).grown hg (fun k hk => (hown.lt k hk).1)
end Go.Proofs.YtfdlmgjjpcdkpaaDoor
