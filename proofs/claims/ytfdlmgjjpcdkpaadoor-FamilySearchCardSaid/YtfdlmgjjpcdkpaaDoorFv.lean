/- Walks: the sets of a list, each once, sorted by the library; the minimal sets of a list. -/
import Derived.Test.YtfdlmgjjpcdkpaaDoorFu
import Derived.Shelf.SlSortCmp.NoneTotal
namespace Go.Proofs.YtfdlmgjjpcdkpaaDoor
open Go.RowKit Go.Sort

/-- A set as the sort's element. -/
abbrev U16 := { x : Nat // x < 65536 }
instance : Inhabited U16 := ⟨⟨0, by omega⟩⟩
def eu (x : U16) : Value := sv x.1
theorem eu_one : OneCell eu := fun _ => rfl
def cu (x y : U16) : Int := cmpS x.1 y.1
theorem lt_cu (x y : U16) : ltOf cu x y = bef x.1 y.1 := rfl
theorem cu_swo : SWO (ltOf cu) := by
  refine ⟨fun x => bef_irr x.1, fun x y z h k => bef_trans h k, fun x y z h k => ?_⟩
  rw [lt_cu] at *
  rw [Bool.eq_false_iff] at *
  intro hxz
  rw [Ne, bef_iff] at h k
  rw [bef_iff] at hxz
  omega
theorem cu_total (x y : U16) (h : ltOf cu x y = false) (k : ltOf cu y x = false) : x = y := by
  rw [lt_cu] at *
  apply Subtype.ext
  refine Classical.byContradiction fun hne => ?_
  rw [bef_tri h hne] at k
  cases k
theorem cu_lays (size blk off : Nat) (w : World) : CmpLays1 Tryd.prog 39 #[] eu cu blk off size w := by
  intro m os dk _ x y
  refine (compareX_any x.1 y.1 _ x.2 y.2).mono ?_
  rintro e w' ⟨he, o, hw⟩
  exact ⟨he, 2, #[o], by rw [hw, alloc_eq_grow]⟩
/-- The elements of a list of sets. -/
def pk (l : List Nat) (h : Small16 l) : List U16 := l.attach.map fun x => ⟨x.1, h x.1 x.2⟩
theorem pk_val (l : List Nat) (h : Small16 l) : (pk l h).map (·.1) = l := by unfold pk; rw [List.map_map]; exact List.attach_map_subtype_val l
theorem pk_len (l : List Nat) (h : Small16 l) : (pk l h).length = l.length := by unfold pk; rw [List.length_map, List.length_attach]
theorem pk_eu (l : List Nat) (h : Small16 l) : (pk l h).map eu = us l := by
  have : us l = us ((pk l h).map (·.1)) := by rw [pk_val]
  rw [this]
  unfold us
  rw [List.map_map]
  rfl
theorem sort_srt {l : List Nat} (h : Small16 l) (hd : l.Nodup) : ((pk l h).mergeSort fun x y => !(ltOf cu) y x).map (·.1) = srt l := by
  obtain ⟨le, hle⟩ : ∃ le : U16 → U16 → Bool, (fun x y => !(ltOf cu) y x) = le := ⟨_, rfl⟩
  have hleq : ∀ x y, le x y = !bef y.1 x.1 := fun x y => by rw [← hle]; rfl
  rw [hle]
  have hp := List.mergeSort_perm (pk l h) le
  have hpv := hp.map (·.1)
  rw [pk_val] at hpv
  have hmem : ∀ x, x ∈ ((pk l h).mergeSort le).map (·.1) ↔ x ∈ srt l := fun x => by rw [hpv.mem_iff, mem_srt]
  have hnd : (((pk l h).mergeSort le).map (·.1)).Nodup := hpv.nodup_iff.2 hd
  have hs := List.pairwise_mergeSort (le := le) (by
      intro a b c hab hbc
      rw [hleq] at *
      simp only [Bool.not_eq_true'] at *
      exact cu_swo.ntrans _ _ _ hbc hab) (by
      intro a b
      rw [hleq, hleq]
      cases hb : bef b.1 a.1 with
      | false => rfl
      | true => rw [bef_asym hb]; rfl) (pk l h)
  refine inc_ext ?_ (srt_inc l) hmem
  unfold Inc
  rw [List.pairwise_map]
  have hn2 : ((pk l h).mergeSort le).Pairwise fun a b => a.1 ≠ b.1 := by
    have := hnd
    unfold List.Nodup at this
    rw [List.pairwise_map] at this
    exact this
  refine (hs.and hn2).imp ?_
  rintro a b ⟨h1, h2⟩
  rw [hleq] at h1
  simp only [Bool.not_eq_true'] at h1
  exact bef_tri h1 (Ne.symm h2)
theorem holds_of_us {w : World} {g : Nat} {cur : Array Value} {e : TypeId} {ss : List U16} (hb : w.heap[g]? = some (.cells cur e (0, 0))) (ht : cur.toList.take ss.length = ss.map eu) : Holds eu w g 0 ss.toArray := by
  intro j hj
  have hj' : j < ss.length := by simpa using hj
  refine ⟨?_, by simp [World.frozen?, hb]⟩
  have h1 : (cur.toList.take ss.length)[j]? = (ss.map eu)[j]? := by rw [ht]
  rw [List.getElem?_take_of_lt hj'] at h1
  simp only [World.cell?, hb, Nat.zero_add]
  simp only [Option.isSome_none, Bool.false_eq_true, if_false]
  rw [← Array.getElem?_toList, h1]
  simp [hj']
theorem heap_put {w : World} {g n : Nat} {os : Array Obj} {cur : Array Value} {e : TypeId} {fr : Nat × Nat} (d : Array U16) (hb : w.heap[g]? = some (.cells cur e fr)) :
    (sortWorld eu w g 0 n d os).heap[g]? = some (.cells (putCells eu 0 d cur) e fr) := by
  have hg : g < w.heap.size := (Array.getElem?_eq_some_iff.1 hb).1
  unfold sortWorld
  rw [heap_grow_old _ _ (by simpa using hg)]
  simp [putRow, mapBlock, Sort.ahead, Array.getElem?_modify, hb, onCells]
theorem grownBy_put {w : World} {g n : Nat} {os : Array Obj} (d : Array U16) : w.grownBy (sortWorld eu w g 0 n d os) (some g) := by
  unfold sortWorld
  refine ⟨rfl, rfl, rfl, by simp, fun k hk hne => ?_⟩
  rw [heap_grow_old _ _ (by simpa using hk)]
  have : g ≠ k := fun e => hne (by rw [e])
  simp [putRow, mapBlock, Sort.ahead, Array.getElem?_modify, this]
theorem take_put (cur : Array Value) (ts : List U16) (h : ts.length ≤ cur.size) : (putCells eu 0 ts.toArray cur).toList.take ts.length = ts.map eu := by
  apply List.ext_getElem?
  intro j
  by_cases hj : j < ts.length
  · rw [List.getElem?_take_of_lt hj, Array.getElem?_toList]
    simp [putCells, hj, show j < cur.size by omega]
  · rw [List.getElem?_take_eq_none (by omega), List.getElem?_eq_none (by simp; omega)]
/-- Behind the sort the same slice owns the sorted list. -/
theorem own_put {w : World} {base g cap n : Nat} {e : TypeId} {os : Array Obj} {cur : Array Value} {ss ts : List U16} (hl : ts.length = ss.length) (hbase : base ≤ g) (hb : w.heap[g]? = some (.cells cur e (0, 0)))
    (h1 : ss.length ≤ cap) (h2 : cap ≤ maxLen) (h3 : cur.size = cap * 1) :
    (sortWorld eu w g 0 n ts.toArray os).ownsRow base e 1 (.slice (some ⟨g, 0, none⟩) ss.length cap) ss.length (ts.map eu) :=
  ⟨by simp [hl], .inr ⟨g, cap, _, rfl, hbase, heap_put _ hb, h1, h2, by simp [putCells, h3], by rw [Nat.mul_one, ← hl]; exact take_put cur ts (by omega)⟩⟩
set_option maxRecDepth 100000 in
set_option maxHeartbeats 2000000 in
/-- An owned row of different sets, sorted. -/
theorem sort_any (v : Value) (n base : Nat) (l : List Nat) (w : World) (hown : w.ownsRow base 28 1 v n (us l)) (h16 : Small16 l) (hd : l.Nodup) (hn : n ≤ 500000) :
    Calls Tryd.prog 66 #[v, .func (.func 39) #[] #[]] w fun e w' => e = .returned (.tuple #[]) ∧ w'.ownsRow base 28 1 v n (us (srt l)) ∧ w.grownBy w' v.ownBlock := by
  have hlen := own_len hown
  rcases hown.2 with ⟨rfl, hz⟩ | ⟨g, cap, cur, rfl, hbase, hgb, r1, r2, r3, r4⟩
  · have hl : l = [] := List.length_eq_zero_iff.1 (by omega)
    subst hl
    subst hz
    refine (Tryd.slices_SortFunc_none (α := U16) none 0 _ w).mono ?_
    rintro e w2 ⟨rfl, rfl⟩
    exact ⟨rfl, by simpa [srt] using hown, World.grownBy.refl _ _⟩
  · have hgl : g < w.heap.size := (Array.getElem?_eq_some_iff.1 hgb).1
    have hpl : (pk l h16).length = n := by rw [pk_len, hlen]
    have hH : Holds eu w g 0 (pk l h16).toArray := holds_of_us hgb (by rw [pk_eu, hpl]; simpa using r4)
    have hs := sort_srt h16 hd
    have hsl : ((pk l h16).mergeSort fun x y => !(ltOf cu) y x).length = (pk l h16).length := List.length_mergeSort _
    have hS := Tryd.slices_SortFunc_total eu eu_one cu cu_swo 39 #[] g 0 cap (pk l h16).toArray w (enters_of Tryd.func39 (by kernel_rfl) rfl) (cu_lays _ _ _ _) hH hgl (by simp [hpl]; omega) cu_total
    simp only [List.size_toArray, hpl] at hS
    refine hS.mono ?_
    rintro e w2 ⟨rfl, nn, os, rfl⟩
    obtain ⟨ts, hts⟩ : ∃ ts, ((pk l h16).mergeSort fun x y => !(ltOf cu) y x) = ts := ⟨_, rfl⟩
    rw [hts] at hs hsl ⊢
    have hus : ts.map eu = us (srt l) := by
      rw [← hs]
      unfold us
      rw [List.map_map]
      rfl
    have hfin := own_put (w := w) (n := nn) (os := os) (ss := pk l h16) (ts := ts) hsl hbase hgb (by rw [hpl]; exact r1) r2 r3
    rw [hpl, hus] at hfin
    exact ⟨rfl, hfin, grownBy_put _⟩
end Go.Proofs.YtfdlmgjjpcdkpaaDoor
