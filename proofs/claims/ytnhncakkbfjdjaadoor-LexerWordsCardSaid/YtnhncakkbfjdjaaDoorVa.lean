/- What Go's library finds as fields, in plain words. -/
import Derived.Test.YtnhncakkbfjdjaaDoorWz
import Derived.Lib.FieldsP
import Derived.Lib.DecodeN
namespace Go.Proofs.YtnhncakkbfjdjaaDoor
open Go.RowKit

theorem decN_wide (n b0 b1 b2 b3 : Nat) (h0 : 128 ≤ b0) (hn : 1 ≤ n) : 128 ≤ (Lib.decodeN n b0 b1 b2 b3).1 ∧ 1 ≤ (Lib.decodeN n b0 b1 b2 b3).2 ∧ (Lib.decodeN n b0 b1 b2 b3).2 ≤ n ∧ (Lib.decodeN n b0 b1 b2 b3).2 ≤ 4 ∧ (2 ≤ (Lib.decodeN n b0 b1 b2 b3).2 → 128 ≤ b1) ∧ (3 ≤ (Lib.decodeN n b0 b1 b2 b3).2 → 128 ≤ b2) ∧ (4 ≤ (Lib.decodeN n b0 b1 b2 b3).2 → 128 ≤ b3) := by
  unfold Lib.decodeN
  repeat' split
  all_goals (simp only; omega)
theorem get_by (s : ByteArray) (i : Nat) (h : i < s.size) : (s.get! i).toNat = (by_ s).getD i 0 := by
  rw [← by_get s i h]
  have e : s.get! i = s[i]'h := by
    show s.data[i]! = s.data[i]
    exact getElem!_pos s.data i h
  rw [e]
/-- A character beyond ASCII: no byte of it is white space. -/
theorem wide_at (s : ByteArray) (pos : Nat) (h : pos < s.size) (hc : 128 ≤ (by_ s).getD pos 0) : 128 ≤ (Utf8.decode s pos).1 ∧ 1 ≤ (Utf8.decode s pos).2 ∧ pos + (Utf8.decode s pos).2 ≤ s.size ∧ ∀ j, j < (Utf8.decode s pos).2 → 128 ≤ (by_ s).getD (pos + j) 0 := by
  rw [Lib.decode_at]
  obtain ⟨a1, a2, a3, a4, a5, a6, a7⟩ := decN_wide (s.size - pos) (s.get! pos).toNat (s.get! (pos + 1)).toNat (s.get! (pos + 2)).toNat (s.get! (pos + 3)).toNat (by rw [get_by s pos h]; exact hc) (by omega)
  refine ⟨a1, a2, by omega, fun j hj => ?_⟩
  generalize (Lib.decodeN (s.size - pos) (s.get! pos).toNat (s.get! (pos + 1)).toNat (s.get! (pos + 2)).toNat (s.get! (pos + 3)).toNat).2 = k at *
  match j, hj with
  | 0, _ => exact hc
  | 1, hj => rw [← get_by s (pos + 1) (by omega)]; exact a5 (by omega)
  | 2, hj => rw [← get_by s (pos + 2) (by omega)]; exact a6 (by omega)
  | 3, hj => rw [← get_by s (pos + 3) (by omega)]; exact a7 (by omega)
  | j + 4, hj => omega
theorem isW_high (c : Nat) (h : 128 ≤ c) : isW c = false := by unfold isW; simp; omega
theorem narrow_at (s : ByteArray) (pos : Nat) (h : pos < s.size) (hc : (by_ s).getD pos 0 < 128) : Utf8.decode s pos = ((by_ s).getD pos 0, 1) := by
  rw [Lib.decode_at, ← get_by s pos h]
  unfold Lib.decodeN
  rw [if_pos (by rw [get_by s pos h]; exact hc)]
def opn (l : List Nat) (pos : Nat) : Option Nat → List Nat
  | some a => (l.take pos).drop a
  | none => []
theorem opn_more (l : List Nat) (a pos k : Nat) (ha : a ≤ pos) (hk : pos + k ≤ l.length) : (l.take pos).drop a ++ (l.drop pos).take k = (l.take (pos + k)).drop a := by
  rw [take_more, List.drop_append_of_le_length (by rw [List.length_take]; omega)]
theorem opn_start (l : List Nat) (pos k : Nat) (hk : pos + k ≤ l.length) : (l.drop pos).take k = (l.take (pos + k)).drop pos := by
  have := opn_more l pos pos k (Nat.le_refl _) hk
  rw [cur_nil l pos (by omega), List.nil_append] at this
  exact this
theorem white_drop (l : List Nat) (pos k : Nat) (hk : pos + k ≤ l.length) (h : ∀ j, j < k → 128 ≤ l.getD (pos + j) 0) : ∀ y ∈ (l.drop pos).take k, isW y = false := by
  intro y hy
  obtain ⟨j, hj, e⟩ := List.mem_iff_getElem.1 hy
  rw [List.length_take, List.length_drop] at hj
  have h2 := h j (by omega)
  refine isW_high y ?_
  rw [← e, List.getElem_take, List.getElem_drop]
  rw [List.getD, List.getElem?_eq_getElem (by omega)] at h2
  exact h2
theorem spans_fld (s : ByteArray) : ∀ (f pos : Nat) (st : Option Nat) (acc : List (Nat × Nat)), s.size ≤ pos + f → pos ≤ s.size → (∀ a, st = some a → a < pos) →
    (Lib.closeSpans s (Lib.spansFromP isW s f pos st acc)).map (fun x => s.extract x.1 x.2) = acc.map (fun x => s.extract x.1 x.2) ++ (fldG (opn (by_ s) pos st) ((by_ s).drop pos)).map bs := by
  have ext : ∀ a pos, pos ≤ s.size → s.extract a pos = bs (((by_ s).take pos).drop a) := fun a pos _ => by rw [ext_bs, List.drop_take]
  have fin : ∀ (pos : Nat) (st : Option Nat) (acc : List (Nat × Nat)), pos = s.size → (∀ a, st = some a → a < pos) → (Lib.closeSpans s (acc, st)).map (fun x => s.extract x.1 x.2) = acc.map (fun x => s.extract x.1 x.2) ++ (fldG (opn (by_ s) pos st) ((by_ s).drop pos)).map bs := by
    intro pos st acc hp hst
    rw [List.drop_eq_nil_of_le (by rw [by_len]; omega)]
    cases st with
    | none => simp [Lib.closeSpans, opn, fldG]
    | some a =>
      have ha := hst a rfl
      have hne : opn (by_ s) pos (some a) ≠ [] := by
        intro e
        have := congrArg List.length e
        rw [show opn (by_ s) pos (some a) = ((by_ s).take pos).drop a from rfl, cur_len _ _ _ (by rw [by_len]; omega)] at this
        simp at this
        omega
      rw [fldG, if_neg hne]
      show (acc ++ [(a, s.size)]).map _ = _
      rw [List.map_append]
      congr 1
      show [s.extract a s.size] = [bs (((by_ s).take pos).drop a)]
      rw [hp, ext a s.size (Nat.le_refl _)]
  intro f
  induction f with
  | zero => intro pos st acc h1 h2 hst; exact fin pos st acc (by omega) hst
  | succ f ih =>
    intro pos st acc h1 h2 hst
    by_cases hlt : pos < s.size
    · have hl : pos < (by_ s).length := by rw [by_len]; exact hlt
      have hd := drop_at (by_ s) pos hl
      unfold Lib.spansFromP
      rw [if_pos hlt]
      by_cases hc : (by_ s).getD pos 0 < 128
      · rw [narrow_at s pos hlt hc]
        by_cases hW : isW ((by_ s).getD pos 0) = true
        · rw [if_pos (show isW ((((by_ s).getD pos 0, 1) : Nat × Nat)).1 = true from hW)]
          cases st with
          | none =>
            show (Lib.closeSpans s (Lib.spansFromP isW s f (pos + 1) none acc)).map _ = _
            rw [ih (pos + 1) none acc (by omega) (by omega) (fun a e => by cases e), hd]
            show _ ++ (fldG [] _).map bs = _ ++ (fldG [] (_ :: _)).map bs
            rw [fldG_w0 _ _ hW]
          | some a =>
            have ha := hst a rfl
            have hne : opn (by_ s) pos (some a) ≠ [] := by
              intro e
              have := congrArg List.length e
              rw [show opn (by_ s) pos (some a) = ((by_ s).take pos).drop a from rfl, cur_len _ _ _ (by omega)] at this
              simp at this
              omega
            show (Lib.closeSpans s (Lib.spansFromP isW s f (pos + 1) none (acc ++ [(a, pos)]))).map _ = _
            rw [ih (pos + 1) none (acc ++ [(a, pos)]) (by omega) (by omega) (fun a e => by cases e), hd, fldG_w1 _ _ _ hW hne, List.map_append, List.append_assoc]
            congr 1
            show [s.extract a pos] ++ _ = bs (((by_ s).take pos).drop a) :: _
            rw [ext a pos (by omega)]
            rfl
        · rw [if_neg (show ¬ isW ((((by_ s).getD pos 0, 1) : Nat × Nat)).1 = true from hW)]
          have hW' := Bool.eq_false_iff.2 hW
          cases st with
          | none =>
            show (Lib.closeSpans s (Lib.spansFromP isW s f (pos + 1) (some pos) acc)).map _ = _
            rw [ih (pos + 1) (some pos) acc (by omega) (by omega) (fun a e => by cases e; omega), hd, fldG_more _ _ _ hW']
            congr 3
            show ((by_ s).take (pos + 1)).drop pos = [] ++ [_]
            rw [cur_more _ _ _ (Nat.le_refl _) hl, cur_nil _ _ (by omega)]
          | some a =>
            have ha := hst a rfl
            show (Lib.closeSpans s (Lib.spansFromP isW s f (pos + 1) (some a) acc)).map _ = _
            rw [ih (pos + 1) (some a) acc (by omega) (by omega) (fun b e => by cases e; omega), hd, fldG_more _ _ _ hW']
            congr 3
            show ((by_ s).take (pos + 1)).drop a = ((by_ s).take pos).drop a ++ [_]
            rw [cur_more _ _ _ (by omega) hl]
      · obtain ⟨w1, w2, w3, w4⟩ := wide_at s pos hlt (by omega)
        have hW : isW (Utf8.decode s pos).1 = false := isW_high _ w1
        rw [hW]
        generalize (Utf8.decode s pos).2 = k at *
        have hwd := white_drop (by_ s) pos k (by rw [by_len]; exact w3) w4
        have hsp : (by_ s).drop pos = ((by_ s).drop pos).take k ++ (by_ s).drop (pos + k) := by rw [← List.drop_drop]; exact (List.take_append_drop k _).symm
        cases st with
        | none =>
          show (Lib.closeSpans s (Lib.spansFromP isW s f (pos + k) (some pos) acc)).map _ = _
          rw [ih (pos + k) (some pos) acc (by omega) (by omega) (fun a e => by cases e; omega)]
          conv => rhs; rw [hsp]
          rw [fldG_word _ hwd]
          congr 3
          show ((by_ s).take (pos + k)).drop pos = [] ++ _
          rw [List.nil_append, opn_start _ _ _ (by rw [by_len]; exact w3)]
        | some a =>
          have ha := hst a rfl
          show (Lib.closeSpans s (Lib.spansFromP isW s f (pos + k) (some a) acc)).map _ = _
          rw [ih (pos + k) (some a) acc (by omega) (by omega) (fun b e => by cases e; omega)]
          conv => rhs; rw [hsp]
          rw [fldG_word _ hwd]
          congr 3
          show ((by_ s).take (pos + k)).drop a = ((by_ s).take pos).drop a ++ _
          rw [opn_more _ _ _ _ (by omega) (by rw [by_len]; exact w3)]
    · rw [Lib.spansFromP_end _ _ _ _ _ _ hlt]
      exact fin pos st acc (by omega) hst
theorem goFields_fld (s : ByteArray) : Lib.goFieldsP isW s = (fld (by_ s)).map bs := by
  have h := spans_fld s s.size 0 none [] (by omega) (by omega) (fun a e => by cases e)
  exact h
end Go.Proofs.YtnhncakkbfjdjaaDoor
