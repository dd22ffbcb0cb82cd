/- Walks: decimal digits are read by Go's library as their value. -/
import Derived.Test.YtnhncakkbfjdjaaDoorWc
import Derived.Lib.UnsafeStr
namespace Go.Proofs.YtnhncakkbfjdjaaDoor
open Go.RowKit

def foldD (acc : Nat) (l : List Nat) : Nat := l.foldl (fun v d => v * 10 + (d - 48)) acc
theorem foldD_ge (l : List Nat) : ∀ acc, acc ≤ foldD acc l := by
  induction l with
  | nil => intro acc; exact Nat.le_refl _
  | cons d l ih => intro acc; exact Nat.le_trans (by omega) (ih (acc * 10 + (d - 48)))
theorem parseM_dig (l : List Nat) (h : ∀ x ∈ l, isD x = true) : ∀ acc, Lib.parseUintM 18446744073709551615 acc (l.map UInt8.ofNat) = if foldD acc l ≤ 18446744073709551615 then .ok (foldD acc l) else if acc ≤ 18446744073709551615 then .range else Lib.parseUintM 18446744073709551615 acc (l.map UInt8.ofNat) := by
  induction l with
  | nil =>
    intro acc
    show Lib.NumEnd.ok acc = if acc ≤ _ then _ else _
    by_cases ha : acc ≤ 18446744073709551615
    · rw [if_pos ha]; rfl
    · rw [if_neg ha, if_neg ha]; rfl
  | cons d l ih =>
    intro acc
    by_cases ha : acc ≤ 18446744073709551615
    · have hd := h d (by simp)
      have hdd : 48 ≤ d ∧ d ≤ 57 := by unfold isD at hd; simpa using hd
      have hto : (UInt8.ofNat d).toNat = d := UInt8.toNat_ofNat_of_lt' (show d < 256 by omega)
      have hge := foldD_ge l (acc * 10 + (d - 48))
      rw [if_pos ha, List.map_cons, Lib.parseUintM, hto, if_pos hdd]
      show _ = if foldD (acc * 10 + (d - 48)) l ≤ _ then Lib.NumEnd.ok (foldD (acc * 10 + (d - 48)) l) else _
      by_cases h1 : 1844674407370955162 ≤ acc
      · rw [if_pos h1, if_neg (by omega)]
      · rw [if_neg h1]
        by_cases h2 : 18446744073709551615 < acc * 10 + (d - 48)
        · rw [if_pos h2, if_neg (by omega)]
        · rw [if_neg h2, ih (fun x hx => h x (by simp [hx])), if_pos (by omega : acc * 10 + (d - 48) ≤ 18446744073709551615)]
    · have := foldD_ge (d :: l) acc
      rw [if_neg (by omega), if_neg ha]
theorem bs_data (l : List Nat) : (bs l).data.toList = l.map UInt8.ofNat := rfl
theorem parseB_dig (l : List Nat) (hne : l ≠ []) (h : ∀ x ∈ l, isD x = true) : Lib.parseIntB 64 (bs l).data.toList = if val10 l < 9223372036854775808 then .ok (val10 l : Int) else .range := by
  rw [bs_data]
  obtain ⟨d, r, rfl⟩ := List.exists_cons_of_ne_nil hne
  have hd := h d (by simp)
  have hdd : 48 ≤ d ∧ d ≤ 57 := by unfold isD at hd; simpa using hd
  have hto : (UInt8.ofNat d).toNat = d := UInt8.toNat_ofNat_of_lt' (show d < 256 by omega)
  have hM : (2 : Nat) ^ 64 - 1 = 18446744073709551615 := by decide
  have hH : (2 : Nat) ^ (64 - 1) = 9223372036854775808 := by decide
  have hp := parseM_dig (d :: r) h 0
  rw [if_pos (by omega : 0 ≤ 18446744073709551615)] at hp
  rw [List.map_cons] at hp ⊢
  unfold Lib.parseIntB
  simp only [hto]
  rw [if_neg (by omega)]
  unfold Lib.parseUintB
  rw [if_neg (by simp), hM, hp, hH]
  show (match (if val10 (d :: r) ≤ _ then Lib.NumEnd.ok (val10 (d :: r)) else _) with | .syntax => _ | .range => _ | .ok u => _) = _
  generalize val10 (d :: r) = v
  by_cases hv : v ≤ 18446744073709551615
  · rw [if_pos hv]
    show (if ¬ d = 45 ∧ 9223372036854775808 ≤ v then Lib.NumEnd.range else if d = 45 ∧ 9223372036854775808 < v then Lib.NumEnd.range else Lib.NumEnd.ok (if d = 45 then -(v : Int) else (v : Int))) = _
    by_cases h2 : v < 9223372036854775808
    · rw [if_neg (by omega), if_neg (by omega), if_neg (by omega), if_pos h2]
    · rw [if_pos (by omega), if_neg h2]
  · rw [if_neg hv, if_neg (by omega)]
theorem up_bytesWorld (w : World) (e : TypeId) (t : ByteArray) : Up w (Lib.bytesWorld w e t) := by
  unfold Lib.bytesWorld
  exact Lib.below_freeze (((Up.refl w).drew).alloc _) (by show w.heap.size ≤ w.heap.size; exact Nat.le_refl _) _
theorem parse_ok (l : List Nat) (hne : l ≠ []) (h : ∀ x ∈ l, isD x = true) (hv : val10 l < 9223372036854775808) (hn : l.length ≤ 100000) (w : World) :
    Calls Tryd.prog 70 #[.string (bs l), .int .i64 10, .int .i64 64] w fun e w' => e = .returned (.tuple #[.int .i64 (val10 l : Int), .nilIface]) ∧ Up w w' := by
  refine (Tryd.strconv_ParseInt_10_at64_ok (bs l) (by rw [bs_size]; omega) _ (by rw [parseB_dig l hne h, if_pos hv]) w).mono ?_
  rintro e w' ⟨rfl, h⟩
  refine ⟨rfl, ?_⟩
  rcases h with rfl | ⟨t, rfl⟩
  · exact Up.refl _
  · exact up_bytesWorld _ _ _
/-- A number and an error that is not nil. -/
def RetErr (w : World) (e : Ending) (w' : World) : Prop := ∃ n t a, e = .returned (.tuple #[.int .i64 n, .iface t a]) ∧ Up w w'
theorem parse_big (l : List Nat) (hne : l ≠ []) (h : ∀ x ∈ l, isD x = true) (hv : 9223372036854775808 ≤ val10 l) (hn : l.length ≤ 100000) (w : World) (hT : Tabs w) :
    Calls Tryd.prog 70 #[.string (bs l), .int .i64 10, .int .i64 64] w (RetErr w) := by
  obtain ⟨tp, p, he⟩ := hT.err
  refine (Tryd.strconv_ParseInt_10_at64_range (bs l) (by rw [bs_size]; omega) (by rw [parseB_dig l hne h, if_neg (by omega)]) _ w he (.inr ⟨_, _, rfl⟩)).mono ?_
  rintro e w' ⟨N, rfl, _, _, hb⟩
  exact ⟨_, _, _, rfl, hb⟩
end Go.Proofs.YtnhncakkbfjdjaaDoor
