/- Plain words on texts, the fourth part: lines and fields. -/
import Derived.Test.YtnhncakkbfjdjaaDoorLo
namespace Go.Proofs.YtnhncakkbfjdjaaDoor

/-- The lines, behind the beginning of one. -/
def lnsG (cur : List Nat) : List Nat → List (List Nat)
  | [] => if cur = [] then [] else [cur]
  | c :: r => if c = 10 then cur :: lnsG [] r else lnsG (cur ++ [c]) r
def lns (l : List Nat) : List (List Nat) := lnsG [] l
/-- The pieces between line feeds, the last one too. -/
def splG (cur : List Nat) : List Nat → List (List Nat)
  | [] => [cur]
  | c :: r => if c = 10 then cur :: splG [] r else splG (cur ++ [c]) r
theorem splG_ne (cur l : List Nat) : splG cur l ≠ [] := by
  induction l generalizing cur with
  | nil => simp [splG]
  | cons c r ih => unfold splG; split
                   · simp
                   · exact ih _
theorem splG_lns (l : List Nat) : ∀ cur, (splG cur l = lnsG cur l ∧ (splG cur l).getLast? ≠ some []) ∨ splG cur l = lnsG cur l ++ [[]] := by
  induction l with
  | nil =>
    intro cur
    unfold splG lnsG
    by_cases h : cur = []
    · subst h; exact .inr rfl
    · rw [if_neg h]; exact .inl ⟨rfl, by simpa using h⟩
  | cons c r ih =>
    intro cur
    unfold splG lnsG
    by_cases h : c = 10
    · rw [if_pos h, if_pos h]
      rcases ih [] with ⟨h1, h2⟩ | h1
      · refine .inl ⟨by rw [h1], ?_⟩
        rw [List.getLast?_cons]
        cases hg : (splG [] r).getLast? with
        | none => exact absurd (List.getLast?_eq_none_iff.1 hg) (splG_ne _ _)
        | some x => rw [hg] at h2; simpa using h2
      · exact .inr (by rw [h1]; rfl)
    · rw [if_neg h, if_neg h]
      exact ih _
/-- Each line followed by a line feed. -/
def joinL (ls : List (List Nat)) : List Nat := ls.flatMap fun x => x ++ [10]
theorem joinL_append (a b : List (List Nat)) : joinL (a ++ b) = joinL a ++ joinL b := by unfold joinL; simp
theorem joinL_lns (l : List Nat) : ∀ cur, joinL (lnsG cur l) = if cur ++ l = [] ∨ l.getLast? = some 10 then cur ++ l else cur ++ l ++ [10] := by
  induction l with
  | nil =>
    intro cur
    unfold lnsG
    by_cases h : cur = []
    · subst h; rfl
    · rw [if_neg h, if_neg (by simp [h])]; simp [joinL]
  | cons c r ih =>
    intro cur
    unfold lnsG
    by_cases h : c = 10
    · subst h
      rw [if_pos rfl]
      show (cur ++ [10]) ++ joinL (lnsG [] r) = _
      rw [ih []]
      cases r with
      | nil => simp
      | cons d r' =>
        have e : ((10 :: d :: r').getLast? = some 10) = ((d :: r').getLast? = some 10) := by rw [List.getLast?_cons_cons]
        by_cases hg : (d :: r').getLast? = some 10
        · rw [if_pos (.inr hg), if_pos (.inr (by rw [e]; exact hg))]; simp
        · rw [if_neg (by simpa using hg), if_neg (by rw [e]; simpa using hg)]; simp
    · rw [if_neg h, ih]
      cases r with
      | nil => simp [h]
      | cons d r' =>
        have e : ((c :: d :: r').getLast? = some 10) = ((d :: r').getLast? = some 10) := by rw [List.getLast?_cons_cons]
        by_cases hg : (d :: r').getLast? = some 10
        · rw [if_pos (.inr hg), if_pos (.inr (by rw [e]; exact hg))]; simp
        · rw [if_neg (by simpa using hg), if_neg (by rw [e]; simpa using hg)]; simp
/-- A text is its lines, each followed by a line feed, exactly if it is empty or ends with one. -/
theorem joinL_whole (l : List Nat) : joinL (lns l) = l ↔ (l = [] ∨ l.getLast? = some 10) := by
  unfold lns
  rw [joinL_lns l []]
  simp only [List.nil_append]
  constructor
  · intro h
    by_cases hc : l = [] ∨ l.getLast? = some 10
    · exact hc
    · rw [if_neg hc] at h
      have := congrArg List.length h
      simp at this
  · intro h
    rw [if_pos h]
theorem lnsG_len (l : List Nat) : ∀ cur, (lnsG cur l).length ≤ cur.length + l.length ∧ (joinL (lnsG cur l)).length ≤ cur.length + l.length + 1 := by
  intro cur
  refine ⟨?_, ?_⟩
  · induction l generalizing cur with
    | nil => unfold lnsG; split
             · simp
             · next h => have := List.length_pos_iff.2 h; simp; omega
    | cons c r ih =>
      unfold lnsG
      split
      · have := ih []; simp only [List.length_cons, List.length_nil] at this ⊢; omega
      · have := ih (cur ++ [c]); simp only [List.length_append, List.length_cons, List.length_nil] at this ⊢; omega
  · rw [joinL_lns]
    split <;> simp <;> omega

/-- The parts without white space, behind the beginning of one. -/
def fldG (cur : List Nat) : List Nat → List (List Nat)
  | [] => if cur = [] then [] else [cur]
  | c :: r => if isW c then (if cur = [] then fldG [] r else cur :: fldG [] r) else fldG (cur ++ [c]) r
def fld (l : List Nat) : List (List Nat) := fldG [] l
theorem fldG_parts (l : List Nat) : ∀ cur, (∀ x ∈ cur, isW x = false) → ∀ x ∈ fldG cur l, x ≠ [] ∧ ∀ y ∈ x, isW y = false := by
  induction l with
  | nil =>
    intro cur hc x hx
    unfold fldG at hx
    split at hx
    · simp at hx
    · next h => simp at hx; subst hx; exact ⟨h, hc⟩
  | cons c r ih =>
    intro cur hc x hx
    unfold fldG at hx
    split at hx
    · split at hx
      · exact ih [] (by simp) x hx
      · next h =>
        rcases List.mem_cons.1 hx with rfl | hx
        · exact ⟨h, hc⟩
        · exact ih [] (by simp) x hx
    · next h => exact ih (cur ++ [c]) (fun y hy => by
        rcases List.mem_append.1 hy with hy | hy
        · exact hc y hy
        · simp at hy; subst hy; simpa using h) x hx
theorem fldG_word (x : List Nat) (hx : ∀ y ∈ x, isW y = false) : ∀ (cur r : List Nat), fldG cur (x ++ r) = fldG (cur ++ x) r := by
  induction x with
  | nil => intro cur r; simp
  | cons c x ih =>
    intro cur r
    rw [List.cons_append]
    conv => lhs; unfold fldG
    rw [if_neg (by rw [hx c (by simp)]; simp), ih (fun y hy => hx y (by simp [hy]))]
    simp
def joinF (fs : List (List Nat)) : List Nat := fs.flatMap fun x => x ++ [32, 9, 10]
theorem joinF_append (a b : List (List Nat)) : joinF (a ++ b) = joinF a ++ joinF b := by unfold joinF; simp
theorem fldG_w0 (c : Nat) (r : List Nat) (h : isW c = true) : fldG [] (c :: r) = fldG [] r := by rw [fldG, if_pos h, if_pos rfl]
theorem fldG_w1 (cur : List Nat) (c : Nat) (r : List Nat) (h : isW c = true) (hc : cur ≠ []) : fldG cur (c :: r) = cur :: fldG [] r := by rw [fldG, if_pos h, if_neg hc]
theorem fldG_more (cur : List Nat) (c : Nat) (r : List Nat) (h : isW c = false) : fldG cur (c :: r) = fldG (cur ++ [c]) r := by rw [fldG, if_neg (by rw [h]; simp)]
theorem fld_joinF (fs : List (List Nat)) (h : ∀ x ∈ fs, x ≠ [] ∧ ∀ y ∈ x, isW y = false) : fldG [] (joinF fs) = fs := by
  induction fs with
  | nil => rfl
  | cons x fs ih =>
    have hx := h x (by simp)
    show fldG [] ((x ++ [32, 9, 10]) ++ joinF fs) = _
    rw [List.append_assoc, fldG_word x hx.2, List.nil_append, List.cons_append, fldG_w1 _ _ _ rfl hx.1, List.cons_append, fldG_w0 _ _ rfl, List.cons_append, fldG_w0 _ _ rfl, List.nil_append, ih (fun y hy => h y (by simp [hy]))]
/-- More white space between the parts changes nothing. -/
theorem fld_again (l : List Nat) : fld (13 :: joinF (fld l)) = fld l := by
  unfold fld
  rw [fldG_w0 _ _ rfl]
  exact fld_joinF _ (fldG_parts l [] (by simp))
theorem fldG_len (l : List Nat) : ∀ cur, (joinF (fldG cur l)).length ≤ 4 * (cur.length + l.length) ∧ (fldG cur l).length ≤ cur.length + l.length := by
  induction l with
  | nil =>
    intro cur
    unfold fldG
    split
    · simp [joinF]
    · next h => have := List.length_pos_iff.2 h; simp [joinF]; omega
  | cons c r ih =>
    intro cur
    unfold fldG
    split
    · split
      · have := ih []; simp only [List.length_cons, List.length_nil] at this ⊢; omega
      · next h =>
        have h0 := List.length_pos_iff.2 h
        have := ih []
        show ((cur ++ [32, 9, 10]) ++ joinF (fldG [] r)).length ≤ _ ∧ _
        simp only [List.length_append, List.length_cons, List.length_nil] at this ⊢; omega
    · have := ih (cur ++ [c]); simp only [List.length_append, List.length_cons, List.length_nil] at this ⊢; omega
end Go.Proofs.YtnhncakkbfjdjaaDoor
