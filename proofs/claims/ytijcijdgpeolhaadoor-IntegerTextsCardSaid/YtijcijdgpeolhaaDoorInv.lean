/- A region that draws its order, by an invariant: one step for each operation, whatever the order. -/
import Derived.Test.YtijcijdgpeolhaaDoorBase4
import Derived.RegionTactic
namespace Go.Proofs.YtijcijdgpeolhaaDoor
open Go.RowKit

/-- How many operations are still to come. -/
def left (l : Array Bool) : Nat := (l.toList.filter fun b => !b).length
theorem left_set : ∀ (l : List Bool) (i : Nat), l[i]? = some false → ((l.set i true).filter fun b => !b).length < (l.filter fun b => !b).length
  | [], _, h => by cases h
  | b :: l, 0, h => by simp at h; subst h; simp
  | b :: l, i + 1, h => by
    have := left_set l i (by simpa using h)
    cases b <;> simp <;> omega
theorem getD_false {l : Array Bool} {i : Nat} (h : l.getD i true = false) : l.toList[i]? = some false := by
  rw [Array.getD_eq_getD_getElem?] at h
  rw [Array.getElem?_toList]
  cases e : l[i]? with
  | none => rw [e] at h; cases h
  | some b => rw [e] at h; simp at h; rw [h]
theorem left_lt {l : Array Bool} {i : Nat} (h : l.getD i true = false) : left (l.setIfInBounds i true) < left l := by
  unfold left
  rw [Array.toList_setIfInBounds]
  exact left_set _ _ (getD_false h)
theorem left_pos {l : Array Bool} {i : Nat} (h : l.getD i true = false) : 0 < left l := Nat.lt_of_le_of_lt (Nat.zero_le _) (left_lt h)
section
variable {P : Program} {ops : Array Oper} {Q : Exit → Act → World → Prop} {md : Region.Mode}
theorem ready_not {l : Array Bool} {i : Nat} (h : i ∈ Region.ready md ops l) : l.getD i true = false := by
  unfold Region.ready at h
  have := (List.mem_filter.1 h).2
  simp only [Bool.and_eq_true, Bool.not_eq_true'] at this
  exact this.1
theorem ready_lt {l : Array Bool} {i : Nat} (h : i ∈ Region.ready md ops l) : i < ops.size := by
  unfold Region.ready at h
  exact List.mem_range.1 (List.mem_filter.1 h).1
theorem ready_dep {l : Array Bool} {i : Nat} {o : Oper} (h : i ∈ Region.ready md ops l) (ho : ops[i]? = some o) (d : Nat) (hd : (o.after.any fun e => Region.binds md e && e.on == d) = true) : l.getD d false = true := by
  unfold Region.ready at h
  have h2 := (List.mem_filter.1 h).2
  simp only [Bool.and_eq_true, ho, Option.map_some, Option.getD_some] at h2
  obtain ⟨e, he, h3⟩ := Array.any_eq_true'.1 hd
  have h4 := (Array.all_eq_true'.1 h2.2) e he
  simp only [Bool.and_eq_true, beq_iff_eq] at h3
  rw [h3.1, h3.2] at h4
  simpa using h4
/-- The edges that bind lead back. -/
def backs (md : Region.Mode) (ops : Array Oper) : Bool := (List.range ops.size).all fun i => ((ops[i]?).map fun o => o.after.all fun e => !Region.binds md e || decide (e.on < i)).getD false
theorem all_listed {l : Array Bool} (hb : backs md ops = true) (hs : l.size = ops.size) (h : Region.ready md ops l = []) : ∀ i, i < ops.size → l.getD i false = true := by
  intro i
  induction i using Nat.strongRecOn with
  | _ i ih =>
    intro hi
    cases e : l.getD i false with
    | true => rfl
    | false =>
      exfalso
      have h1 : l.getD i true = false := by
        rw [Array.getD_eq_getD_getElem?] at e ⊢
        have : l[i]? = some l[i] := Array.getElem?_eq_getElem (by omega)
        rw [this] at e ⊢
        exact e
      have h2 := List.all_eq_true.1 hb i (List.mem_range.2 hi)
      have h3 : i ∈ Region.ready md ops l := by
        unfold Region.ready
        refine List.mem_filter.2 ⟨List.mem_range.2 hi, ?_⟩
        cases ho : ops[i]? with
        | none => rw [ho] at h2; cases h2
        | some o =>
          rw [ho] at h2
          simp only [Option.map_some, Option.getD_some] at h2 ⊢
          rw [h1]
          simp only [Bool.not_false, Bool.true_and]
          refine Array.all_eq_true'.2 fun x hx => ?_
          have h4 := Array.all_eq_true'.1 h2 x hx
          cases hbd : Region.binds md x with
          | false => simp
          | true =>
            rw [hbd] at h4
            simp at h4
            simp [ih x.on h4 (by omega)]
      rw [h] at h3
      cases h3
theorem wpAny_inv (J : Array Bool → Act → World → Prop) (hb : backs md ops = true) (hs : ∀ l a w, J l a w → l.size = ops.size)
    (hQ : ∀ l a w, J l a w → (∀ i, i < ops.size → l.getD i false = true) → Q .normal a w)
    (hstep : ∀ l a w, J l a w → ∀ i, i ∈ Region.ready md ops l → wpOp P ops Q i (J (l.setIfInBounds i true)) a w) :
    ∀ (fuel : Nat) (l : Array Bool) (a : Act) (w : World), left l ≤ fuel → J l a w → wpAny P md ops Q fuel l a w
  | 0, l, a, w, hl, hJ => by
    have hn : Region.ready md ops l = [] := by
      cases e : Region.ready md ops l with
      | nil => rfl
      | cons i t =>
        have hi : i ∈ Region.ready md ops l := by rw [e]; simp
        have := left_pos (ready_not hi)
        omega
    exact ⟨hn, hQ l a w hJ (all_listed hb (hs l a w hJ) hn)⟩
  | fuel + 1, l, a, w, hl, hJ => ⟨fun hn => hQ l a w hJ (all_listed hb (hs l a w hJ) hn), fun i hi =>
      wpOp_mono (fun a' w' h' => wpAny_inv J hb hs hQ hstep fuel _ a' w' (by have := left_lt (ready_not hi); omega) h') (hstep l a w hJ i hi)⟩
theorem left_replicate (n : Nat) : left (Array.replicate n false) ≤ n := by simp [left]
/-- A region that draws its order, by an invariant. -/
theorem region_inv (J : Array Bool → Act → World → Prop) {id : Nat} {a : Act} {w : World} (hm : P.follows .mixedOrders = true) (hb : backs .any ops = true) (hs : ∀ l a w, J l a w → l.size = ops.size)
    (h0 : J (Array.replicate ops.size false) a w.drew)
    (hstep : ∀ l a w, J l a w → ∀ i, i ∈ Region.ready .any ops l → wpOp P ops Q i (J (l.setIfInBounds i true)) a w)
    (hQ : ∀ l a w, J l a w → (∀ i, i < ops.size → l.getD i false = true) → Q .normal a w) : (Code.region id ops true).wp P Q a w :=
  wp_region_any hm (wpAny_inv J hb hs hQ hstep ops.size _ _ _ (left_replicate _) h0)
end
/-- A number is neither a sign nor a slice: limbs do not lie in the box of an integer. -/
theorem Lim.boxed {w : World} {A : Option Addr} {l : List Nat} {g : Nat} {t : TypeId} {s : Bool} {B : Option Addr} {n c : Nat} (h : Lim w A l) (hb : Bk w g t #[.bool s, .slice B n c]) (x y : Value) : Lim ((w.setCell ⟨g, 0, none⟩ x).setCell ⟨g, 1, none⟩ y) A l := by
  rcases h with rfl | ⟨ad, rfl, hlt, hc⟩
  · exact Or.inl rfl
  · by_cases hl : l = []
    · exact Or.inl hl
    · have hg : ad.block ≠ g := fun e => by
        obtain ⟨x0, l', rfl⟩ := List.exists_cons_of_ne_nil hl
        have h0 := hc 0 x0 rfl
        have ha : ad.add 0 = ad := by simp [Addr.add]
        rw [ha] at h0
        unfold Bk at hb
        rw [← e] at hb
        have h1 : w.cell? ad = (#[Value.bool s, .slice B n c] : Array Value)[ad.off]? ∨ ad.spot.isSome = true := by
          cases hsp : ad.spot with
          | none => left; simp [World.cell?, hb, hsp]
          | some _ => right; rfl
        rcases h1 with h1 | h1
        · rw [h1] at h0
          match ho : ad.off, h0 with
          | 0, h0 => simp at h0
          | 1, h0 => simp at h0
          | _ + 2, h0 => simp at h0
        · have := World.cell?_spot h0
          rw [this] at h1
          cases h1
      refine Or.inr ⟨ad, rfl, by simpa using hlt, fun j z hz => ?_⟩
      have n1 : ∀ o, ad.add j ≠ ⟨g, o, none⟩ := fun o e => hg (by have := congrArg Addr.block e; rwa [addBlock] at this)
      exact ((World.cell?_setCell_other _ _ _ _ (n1 1).symm).trans (World.cell?_setCell_other _ _ _ _ (n1 0).symm)).trans (hc j z hz)
end Go.Proofs.YtijcijdgpeolhaaDoor
