/- Plain words on texts, the second part: all tokens of a text. -/
import Derived.Test.YtnhncakkbfjdjaaDoorLm
namespace Go.Proofs.YtnhncakkbfjdjaaDoor

theorem cnt_pos (p : Nat → Bool) (c : Nat) (r : List Nat) (h : p c = true) : 1 ≤ cnt p (c :: r) := by unfold cnt; rw [if_pos h]; omega
theorem tok_size (l : List Nat) : (tok l).2 ≤ l.length := by
  unfold tok
  split
  · simp
  · next c r =>
    split
    · split
      · exact cnt_le _ _
      · simp
    · split
      · split
        · exact cnt_le _ _
        · simp
      · split
        · split
          · next m k h => have := stg_size _ r (Nat.le_refl _) m k h; simp; omega
          · simp
        · split <;> simp

/-- What was read before, and the rest. -/
def preL {α : Type} (a : List α) (x : Nat ⊕ List α) : Nat ⊕ List α := match x with | .inl e => .inl e | .inr t => .inr (a ++ t)
theorem preL_nil {α : Type} (x : Nat ⊕ List α) : preL [] x = x := by cases x <;> rfl
theorem preL_preL {α : Type} (a b : List α) (x : Nat ⊕ List α) : preL a (preL b x) = preL (a ++ b) x := by cases x <;> simp [preL]
def toksF : Nat → List Nat → Nat → Nat ⊕ List (Tk × Nat)
  | 0, _, _ => .inr []
  | _ + 1, [], _ => .inr []
  | k + 1, c :: r, n =>
    if isW c then toksF k r (if c = 10 then n + 1 else n)
    else if c = 47 ∧ r.head? = some 47 then toksF k ((c :: r).drop (cnt (fun x => x != 10) (c :: r))) n
    else if (tok (c :: r)).2 = 0 then .inl n
    else preL [((tok (c :: r)).1, n)] (toksF k ((c :: r).drop (tok (c :: r)).2) n)
theorem toksF_mono : ∀ (k : Nat) (l : List Nat) (n : Nat), l.length ≤ k → toksF k l n = toksF l.length l n := by
  intro k
  induction k using Nat.strongRecOn with
  | _ k ih =>
    intro l n hl
    cases l with
    | nil => cases k <;> rfl
    | cons c r =>
      cases k with
      | zero => simp at hl
      | succ k =>
        simp only [List.length_cons] at hl ⊢
        unfold toksF
        split
        · rw [ih k (by omega) _ _ (by omega)]
        · split
          · next h =>
            have h1 : 1 ≤ cnt (fun x => x != 10) (c :: r) := cnt_pos _ _ _ (by rw [h.1]; rfl)
            have hlen : ((c :: r).drop (cnt (fun x => x != 10) (c :: r))).length ≤ r.length := by rw [List.length_drop]; simp only [List.length_cons]; omega
            rw [ih k (by omega) _ _ (by omega), ih r.length (by omega) _ _ hlen]
          · split
            · rfl
            · have hlen : ((c :: r).drop (tok (c :: r)).2).length ≤ r.length := by rw [List.length_drop]; simp only [List.length_cons]; omega
              rw [ih k (by omega) _ _ (by omega), ih r.length (by omega) _ _ hlen]
/-- The tokens of a text that begins in a line, with their lines; or the line of the first error. -/
def toks (l : List Nat) (n : Nat) : Nat ⊕ List (Tk × Nat) := toksF l.length l n
theorem toks_nil (n : Nat) : toks [] n = .inr [] := rfl
theorem toks_white (c : Nat) (r : List Nat) (n : Nat) (h : isW c = true) : toks (c :: r) n = toks r (if c = 10 then n + 1 else n) := by
  show toksF _ _ _ = _
  rw [List.length_cons]
  unfold toksF
  rw [if_pos h]
  rfl
theorem toks_comment (l : List Nat) (n : Nat) (h0 : l.head? = some 47) (h1 : l.tail.head? = some 47) : toks l n = toks (l.drop (cnt (fun x => x != 10) l)) n := by
  cases l with
  | nil => cases h0
  | cons c r =>
    obtain rfl : c = 47 := by simpa using h0
    show toksF _ _ _ = _
    rw [List.length_cons]
    unfold toksF
    rw [if_neg (by decide), if_pos ⟨rfl, h1⟩]
    have h1 : 1 ≤ cnt (fun x => x != 10) (47 :: r) := cnt_pos _ _ _ rfl
    have hlen : ((47 :: r).drop (cnt (fun x => x != 10) (47 :: r))).length ≤ r.length := by rw [List.length_drop]; simp only [List.length_cons]; omega
    exact toksF_mono _ _ _ hlen
/-- A token or an error stands at the beginning. -/
def Begins (l : List Nat) : Prop := l ≠ [] ∧ isW (l.headD 0) = false ∧ ¬ (l.head? = some 47 ∧ l.tail.head? = some 47)
theorem toks_bad (l : List Nat) (n : Nat) (h : Begins l) (h0 : (tok l).2 = 0) : toks l n = .inl n := by
  obtain ⟨hne, hw, hc⟩ := h
  cases l with
  | nil => exact absurd rfl hne
  | cons c r =>
    show toksF _ _ _ = _
    rw [List.length_cons]
    unfold toksF
    rw [if_neg (by simpa using hw), if_neg (fun e => hc ⟨by rw [e.1]; rfl, e.2⟩), if_pos h0]
theorem toks_tok (l : List Nat) (n : Nat) (h : Begins l) (h0 : (tok l).2 ≠ 0) : toks l n = preL [((tok l).1, n)] (toks (l.drop (tok l).2) n) := by
  obtain ⟨hne, hw, hc⟩ := h
  cases l with
  | nil => exact absurd rfl hne
  | cons c r =>
    show toksF _ _ _ = _
    rw [List.length_cons]
    unfold toksF
    rw [if_neg (by simpa using hw), if_neg (fun e => hc ⟨by rw [e.1]; rfl, e.2⟩), if_neg h0]
    have hlen : ((c :: r).drop (tok (c :: r)).2).length ≤ r.length := by rw [List.length_drop]; simp only [List.length_cons]; omega
    rw [toksF_mono _ _ _ hlen]
    rfl
/-- How many line feeds. -/
def nls (l : List Nat) : Nat := l.count 10
theorem nls_append (a b : List Nat) : nls (a ++ b) = nls a + nls b := List.count_append
theorem toks_whites : ∀ (a r : List Nat) (n : Nat), (∀ x ∈ a, isW x = true) → toks (a ++ r) n = toks r (n + nls a)
  | [], r, n, _ => rfl
  | c :: a, r, n, h => by
    rw [List.cons_append, toks_white _ _ _ (h c (by simp)), toks_whites a r _ (fun x hx => h x (by simp [hx]))]
    unfold nls
    by_cases hc : c = 10
    · subst hc; rw [if_pos rfl, List.count_cons_self]; congr 1; omega
    · rw [if_neg hc, List.count_cons_of_ne (by simpa using hc)]
theorem cnt_take (p : Nat → Bool) : ∀ l : List Nat, ∀ x ∈ l.take (cnt p l), p x = true
  | [], x, h => by simp at h
  | c :: r, x, h => by
    unfold cnt at h
    split at h
    · next hc =>
      rw [List.take_succ_cons, List.mem_cons] at h
      rcases h with rfl | h
      · exact hc
      · exact cnt_take p r x h
    · simp at h
theorem nls_none (l : List Nat) (h : ∀ x ∈ l, (x != 10) = true) : nls l = 0 := by
  unfold nls
  rw [List.count_eq_zero]
  intro hm
  have := h 10 hm
  cases this
/-- A comment, and the line feed behind it if there is one. -/
theorem toks_cut (l : List Nat) (n : Nat) (h0 : l.head? = some 47) (h1 : l.tail.head? = some 47) : toks l n = toks (l.drop (cnt (fun x => x != 10) l + 1)) (n + nls (l.take (cnt (fun x => x != 10) l + 1))) := by
  rw [toks_comment l n h0 h1]
  generalize hk : cnt (fun x => x != 10) l = k
  have hle : k ≤ l.length := by rw [← hk]; exact cnt_le _ _
  have htk : nls (l.take k) = 0 := nls_none _ (by rw [← hk]; exact cnt_take _ l)
  by_cases h : k < l.length
  · have hs := cnt_stop (fun x => x != 10) l (by omega)
    rw [hk] at hs
    have hd : l.drop k = 10 :: l.drop (k + 1) := by
      rw [List.drop_eq_getElem_cons h]
      congr 1
      rw [List.getD, List.getElem?_eq_getElem h] at hs
      simpa using hs
    have ht : l.take (k + 1) = l.take k ++ [10] := by
      rw [List.take_succ_eq_append_getElem h]
      congr 2
      rw [List.getD, List.getElem?_eq_getElem h] at hs
      simpa using hs
    rw [hd, toks_white _ _ _ rfl, if_pos rfl, ht, nls_append, htk]
    show toks _ _ = toks _ (n + (0 + 1))
    rw [Nat.zero_add]
  · have hd : l.drop k = [] := List.drop_eq_nil_of_le (by omega)
    have hd2 : l.drop (k + 1) = [] := List.drop_eq_nil_of_le (by omega)
    rw [hd, hd2, toks_nil, toks_nil]

/-- Hexadecimal digits, characters of literals, literals. -/
def hxc (n : Nat) : Nat := if n < 10 then 48 + n else 87 + n
def esc (c : Nat) : List Nat := if c = 34 ∨ c = 92 then [92, c] else if c = 10 then [92, 110] else if isP c then [c] else [92, 120, hxc (c / 16), hxc (c % 16)]
def quo (l : List Nat) : List Nat := 34 :: (l.flatMap esc ++ [34])
theorem hxd_hxc (n : Nat) (h : n < 16) : hxd (hxc n) = n := by unfold hxd hxc; split <;> split <;> (try split) <;> omega
theorem chr_esc (c : Nat) (h : c < 256) (r : List Nat) : chr (esc c ++ r) = (c, (esc c).length) := by
  unfold esc
  split
  · next h1 => rcases h1 with rfl | rfl <;> rfl
  · next h1 =>
    split
    · next h2 => subst h2; rfl
    · split
      · next h3 =>
        unfold chr
        simp only [List.cons_append, List.nil_append]
        rw [if_neg (by omega), if_pos (by rw [h3]; simp; omega)]
        rfl
      · unfold chr
        simp only [List.cons_append, List.nil_append]
        rw [if_pos trivial, if_neg (by omega), if_neg (by omega), if_pos trivial]
        rw [hxd_hxc _ (by omega), hxd_hxc _ (by omega)]
        rw [if_pos (by omega)]
        have e : 16 * (c / 16) + c % 16 = c := by omega
        rw [e]
        rfl
theorem esc_head (c : Nat) (r : List Nat) : (esc c ++ r).head? ≠ some 34 := by
  unfold esc
  split
  · simp
  · next h1 =>
    split
    · simp
    · split
      · simp; omega
      · simp
theorem esc_len (c : Nat) : 1 ≤ (esc c).length ∧ (esc c).length ≤ 4 := by unfold esc; split <;> (try split) <;> (try split) <;> simp
theorem stg_quo : ∀ (l r : List Nat), (∀ x ∈ l, x < 256) → stg (l.flatMap esc ++ 34 :: r) = some (l, (l.flatMap esc).length + 1)
  | [], r, _ => rfl
  | c :: l, r, h => by
    have hc := chr_esc c (h c (by simp)) (l.flatMap esc ++ 34 :: r)
    have he := esc_len c
    rw [List.flatMap_cons, List.append_assoc, stg_step _ (esc_head c _) (by rw [hc]; show (esc c).length ≠ 0; omega), hc]
    simp only [List.drop_left]
    rw [stg_quo l r (fun x hx => h x (by simp [hx]))]
    simp only [Option.map_some, List.length_append]
    rw [Nat.add_assoc]
theorem quo_len (l : List Nat) : (quo l).length = (l.flatMap esc).length + 2 := by unfold quo; simp
theorem tok_quo (l r : List Nat) (h : ∀ x ∈ l, x < 256) : tok (quo l ++ r) = (⟨3, [], 0, l⟩, (quo l).length) := by
  rw [quo_len]
  unfold quo tok
  simp only [List.cons_append, List.append_assoc, List.nil_append]
  rw [if_neg (by decide), if_neg (by decide), if_pos trivial, stg_quo l r h]
theorem flat_len (l : List Nat) : (l.flatMap esc).length ≤ 4 * l.length := by
  induction l with
  | nil => simp
  | cons c l ih => rw [List.flatMap_cons, List.length_append, List.length_cons]; have := esc_len c; omega
end Go.Proofs.YtnhncakkbfjdjaaDoor
