/- Plain words on memory, the second part: rows of uint32 that the call itself makes. -/
import Derived.Test.YtijcijdgpeolhaaDoorBase
namespace Go.Proofs.YtijcijdgpeolhaaDoor
open Go.RowKit

theorem hide {p : Prop} (h : p) : Hid p := h
theorem cell_new (w : World) (v : Value) (t : TypeId) : (w.alloc (.cells #[v] t)).cell? ⟨w.heap.size, 0, none⟩ = some v := by unfold World.cell?; rw [heap_alloc_new]; rfl
/-- Numbers as cells of type uint32. -/
def u32s (l : List Nat) : List Value := l.map fun (x : Nat) => .int .u32 (x : Int)
theorem u32s_len (l : List Nat) : (u32s l).length = l.length := by simp [u32s]
theorem u32s_append (l m : List Nat) : u32s (l ++ m) = u32s l ++ u32s m := by simp [u32s]
theorem u32s_one (l : List Nat) : ∀ u ∈ u32s l, u.oneCell' = true := by
  intro u hu
  simp only [u32s, List.mem_map] at hu
  obtain ⟨x, _, rfl⟩ := hu
  rfl
theorem u32s_get {l : List Nat} {j x : Nat} (h : l[j]? = some x) : (u32s l)[j]? = some (.int .u32 (x : Int)) := by simp [u32s, h]

/-- The slice at A lies in block B or beyond. -/
def NewB (B : Nat) (A : Option Addr) : Prop := ∀ ad, A = some ad → B ≤ ad.block
theorem NewB.none_ (B : Nat) : NewB B none := fun _ h => by cases h
theorem NewB.mono {B B' : Nat} {A : Option Addr} (h : NewB B A) (hb : B' ≤ B) : NewB B' A := fun ad e => Nat.le_trans hb (h ad e)
/-- A store into another block. -/
theorem Lim.far {w : World} {A : Option Addr} {l : List Nat} {g j : Nat} (h : Lim w A l) (hn : NewB (g + 1) A) (u : Value) : Lim (w.setCell ⟨g, j, none⟩ u) A l := by
  rcases h with rfl | ⟨ad, rfl, hb, hc⟩
  · exact Or.inl rfl
  · have hg := hn ad rfl
    exact Or.inr ⟨ad, rfl, by simpa using hb, fun i x hx => (World.cell?_setCell_other w _ _ u (fun e => by
      have h1 := congrArg Addr.block e
      rw [addBlock] at h1
      simp at h1
      omega)).trans (hc i x hx)⟩
/-- An owned row of uint32 reads as its numbers. -/
theorem own_lim {w : World} {base : Nat} {v : Value} {n : Nat} {l : List Nat} (h : w.ownsRow base 41 1 v n (u32s l)) :
    ∃ A c, v = .slice A n c ∧ n ≤ c ∧ Lim w A l ∧ NewB base A := by
  obtain ⟨hl, hc⟩ := h
  rcases hc with ⟨rfl, rfl⟩ | ⟨g, cap, cur, rfl, hb, hg, hnc, hm, hs, ht⟩
  · rw [u32s_len] at hl
    exact ⟨none, 0, rfl, Nat.le_refl _, Or.inl (List.length_eq_zero_iff.1 (by omega)), NewB.none_ _⟩
  · refine ⟨_, cap, rfl, hnc, Or.inr ⟨_, rfl, ?_, fun j x hx => ?_⟩, fun ad e => by cases e; exact hb⟩
    · rcases Nat.lt_or_ge g w.heap.size with h1 | h1
      · exact h1
      · rw [Array.getElem?_eq_none h1] at hg; cases hg
    · have hu := u32s_get hx
      rw [← ht, List.getElem?_take] at hu
      have ha : ((⟨g, 0, none⟩ : Addr).add j) = ⟨g, j, none⟩ := by unfold Addr.add; split <;> simp_all
      rw [ha]
      split at hu
      · simp [World.cell?, hg, Array.getElem?_toList ▸ hu]
      · cases hu

/-- What a function of limbs returns: new limbs, and nothing that was there has changed. -/
def RetLim (w : World) (r : Nat) (e : Ending) (w' : World) : Prop := ∃ A n c, e = .returned (.slice A n c) ∧ Hid (n = (lim r).length) ∧ Lim w' A (lim r) ∧ n ≤ c ∧ NewB w.heap.size A ∧ Up w w'

theorem new_one (w : World) (x : Nat) (z : Int) (t : TypeId) (h : z = x) : ∀ j u, (u32s [x])[j]? = some u → (w.alloc (.cells #[.int .u32 z] t)).cell? ((⟨w.heap.size, 0, none⟩ : Addr).add j) = some u := by
  intro j u hj
  subst h
  match j, hj with
  | 0, hj =>
    simp [u32s] at hj
    subst hj
    exact cell_new _ _ _
theorem up_append {w wr w1 : World} {e : TypeId} {v : Value} {n : Nat} {xs : List Value} {o : Obj} (hup : Up w wr) (hown : wr.ownsRow w.heap.size e 1 v n xs) (hg : (wr.alloc o).grownBy w1 v.ownBlock) : Up w w1 :=
  (hup.alloc o).grown hg (fun k hk => (hown.lt k hk).1)
/-- The end of a function that trims what it has made. -/
theorem ret_trim {w w' : World} {A : Option Addr} {o : List Nat} {k c r : Nat} (hA : Lim w' A o) (hd : Dig o) (hk : k = o.length) (hr : val o = r) (hc : k ≤ c) (hnew : NewB w.heap.size A) (hu : Up w w') :
    RetLim w r (.returned (.slice A (keep o k) c)) w' := by
  subst hk
  subst hr
  refine ⟨A, _, c, rfl, keep_len hd, ?_, Nat.le_trans (keep_le _ _) hc, hnew, hu⟩
  rw [← trim_lim hd]; exact hA.take _
end Go.Proofs.YtijcijdgpeolhaaDoor
