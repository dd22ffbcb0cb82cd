/- Plain words on texts: characters, names, integers, string literals, tokens. -/
namespace Go.Proofs.YtnhncakkbfjdjaaDoor

def isL (c : Nat) : Bool := (decide (97 ≤ c) && decide (c ≤ 122)) || (decide (65 ≤ c) && decide (c ≤ 90)) || c == 95
def isD (c : Nat) : Bool := decide (48 ≤ c) && decide (c ≤ 57)
def isLD (c : Nat) : Bool := isL c || isD c
def isP (c : Nat) : Bool := decide (32 ≤ c) && decide (c ≤ 126)
def isW (c : Nat) : Bool := c == 32 || c == 9 || c == 13 || c == 10
def symL : List Nat := [123, 125, 40, 41, 91, 93, 44, 59, 58, 61, 47, 43, 45, 60, 62, 124, 38, 42]
def isS (c : Nat) : Bool := symL.contains c
/-- How many numbers at the beginning are of a kind. -/
def cnt (p : Nat → Bool) : List Nat → Nat
  | [] => 0
  | c :: r => if p c then cnt p r + 1 else 0
theorem cnt_le (p : Nat → Bool) : ∀ l : List Nat, cnt p l ≤ l.length
  | [] => Nat.le_refl _
  | c :: r => by unfold cnt; split <;> simp; exact cnt_le p r
theorem cnt_at (p : Nat → Bool) : ∀ (l : List Nat) (k : Nat), k < cnt p l → p (l.getD k 0) = true
  | [], k, h => by simp [cnt] at h
  | c :: r, k, h => by
    unfold cnt at h
    split at h
    · next hc =>
      cases k with
      | zero => simpa using hc
      | succ k => simpa using cnt_at p r k (by omega)
    · omega
theorem cnt_stop (p : Nat → Bool) : ∀ (l : List Nat), cnt p l < l.length → p (l.getD (cnt p l) 0) = false
  | [], h => by simp [cnt] at h
  | c :: r, h => by
    unfold cnt at h ⊢
    split
    · next hc =>
      rw [if_pos hc] at h
      simp only [List.length_cons] at h
      simpa using cnt_stop p r (by omega)
    · next hc => simpa using hc
theorem cnt_eq (p : Nat → Bool) (l : List Nat) (n : Nat) (hn : n ≤ l.length) (h : ∀ k, k < n → p (l.getD k 0) = true) (hs : n < l.length → p (l.getD n 0) = false) : cnt p l = n := by
  have h1 := cnt_le p l
  rcases Nat.lt_trichotomy (cnt p l) n with hlt | he | hgt
  · have := cnt_stop p l (by omega); rw [h _ hlt] at this; cases this
  · exact he
  · have := cnt_at p l n hgt; rw [hs (by omega)] at this; cases this

/-- The value of a digit of \x; 16 if it is none. -/
def hxd (c : Nat) : Nat := if 48 ≤ c ∧ c ≤ 57 then c - 48 else if 97 ≤ c ∧ c ≤ 102 then c - 87 else 16
/-- The character at the beginning: what is meant, and its size; the size 0 if there is none. -/
def chr (l : List Nat) : Nat × Nat :=
  match l with
  | [] => (0, 0)
  | c :: r =>
    if c = 92 then
      match r with
      | [] => (0, 0)
      | d :: r2 =>
        if d = 34 ∨ d = 92 then (d, 2)
        else if d = 110 then (10, 2)
        else if d = 120 then
          match r2 with
          | a :: b :: _ => if hxd a < 16 ∧ hxd b < 16 then (16 * hxd a + hxd b, 4) else (0, 0)
          | _ => (0, 0)
        else (0, 0)
    else if isP c && c != 34 then (c, 1) else (0, 0)
theorem chr_size (l : List Nat) : (chr l).2 ≤ l.length ∧ (chr l).2 ≤ 4 := by
  unfold chr
  split
  · simp
  · split
    · split
      · simp
      · split
        · simp
        · split
          · simp
          · split
            · split
              · split <;> simp
              · simp
            · simp
    · split <;> simp
theorem hxd_lt (c : Nat) : hxd c < 16 ∨ hxd c = 16 := by unfold hxd; split <;> (try split) <;> omega
theorem chr_lt (l : List Nat) (hl : ∀ x ∈ l, x < 256) : (chr l).1 < 256 := by
  unfold chr
  split
  · simp
  · next c r =>
    have hc := hl c (by simp)
    split
    · split
      · simp
      · next d r2 =>
        have hd := hl d (by simp)
        split
        · exact hd
        · split
          · simp
          · split
            · split
              · split
                · show _ < _; omega
                · simp
              · simp
            · simp
    · split <;> simp <;> omega

/-- What follows a quote: what is meant up to the next one, and the size with it. -/
def stgF : Nat → List Nat → Option (List Nat × Nat)
  | 0, _ => none
  | _ + 1, [] => none
  | k + 1, c :: r =>
    if c = 34 then some ([], 1)
    else if (chr (c :: r)).2 = 0 then none
    else match stgF k ((c :: r).drop (chr (c :: r)).2) with
      | none => none
      | some (m, n) => some ((chr (c :: r)).1 :: m, (chr (c :: r)).2 + n)
theorem stgF_mono : ∀ (k : Nat) (l : List Nat), l.length ≤ k → stgF k l = stgF l.length l := by
  intro k
  induction k using Nat.strongRecOn with
  | _ k ih =>
    intro l hl
    cases l with
    | nil => cases k <;> rfl
    | cons c r =>
      cases k with
      | zero => simp at hl
      | succ k =>
        simp only [List.length_cons] at hl ⊢
        unfold stgF
        split
        · rfl
        · split
          · rfl
          · next h0 =>
            have hlen : ((c :: r).drop (chr (c :: r)).2).length ≤ r.length := by rw [List.length_drop]; simp only [List.length_cons]; omega
            rw [ih k (by omega) _ (by omega)]
            rw [ih r.length (by omega) _ hlen]
def stg (l : List Nat) : Option (List Nat × Nat) := stgF l.length l
theorem stg_nil : stg [] = none := rfl
theorem stg_quote (r : List Nat) : stg (34 :: r) = some ([], 1) := rfl
theorem stg_bad (l : List Nat) (hq : l.head? ≠ some 34) (h : (chr l).2 = 0) : stg l = none := by
  cases l with
  | nil => rfl
  | cons c r =>
    unfold stg
    rw [List.length_cons]
    unfold stgF
    rw [if_neg (by simpa using hq), if_pos h]
theorem stg_step (l : List Nat) (hq : l.head? ≠ some 34) (h : (chr l).2 ≠ 0) : stg l = (stg (l.drop (chr l).2)).map fun x => ((chr l).1 :: x.1, (chr l).2 + x.2) := by
  cases l with
  | nil => exact absurd rfl h
  | cons c r =>
    show stgF _ _ = _
    rw [List.length_cons]
    unfold stgF
    rw [if_neg (by simpa using hq), if_neg h]
    have hlen : ((c :: r).drop (chr (c :: r)).2).length ≤ r.length := by rw [List.length_drop]; simp only [List.length_cons]; omega
    rw [stgF_mono _ _ hlen]
    show _ = (stgF _ _).map _
    cases stgF ((c :: r).drop (chr (c :: r)).2).length ((c :: r).drop (chr (c :: r)).2) <;> rfl
theorem stg_size : ∀ (n : Nat) (l : List Nat), l.length ≤ n → ∀ m k, stg l = some (m, k) → 1 ≤ k ∧ k ≤ l.length ∧ m.length + 1 ≤ k := by
  intro n
  induction n with
  | zero => intro l hl m k h; cases l <;> simp at hl; cases h
  | succ n ih =>
    intro l hl m k h
    by_cases hq : l.head? = some 34
    · cases l with
      | nil => cases hq
      | cons c r =>
        simp at hq
        subst hq
        rw [stg_quote] at h
        cases h
        simp
    · by_cases h0 : (chr l).2 = 0
      · rw [stg_bad l hq h0] at h; cases h
      · rw [stg_step l hq h0] at h
        have hs := chr_size l
        cases hd : stg (l.drop (chr l).2) with
        | none => rw [hd] at h; cases h
        | some x =>
          rw [hd] at h
          simp only [Option.map_some, Option.some.injEq, Prod.mk.injEq] at h
          obtain ⟨rfl, rfl⟩ := h
          have := ih _ (by rw [List.length_drop]; omega) x.1 x.2 hd
          rw [List.length_drop] at this
          simp only [List.length_cons]
          omega
theorem stg_lt : ∀ (n : Nat) (l : List Nat), l.length ≤ n → (∀ x ∈ l, x < 256) → ∀ m k, stg l = some (m, k) → ∀ x ∈ m, x < 256 := by
  intro n
  induction n with
  | zero => intro l hl _ m k h; cases l <;> simp at hl; cases h
  | succ n ih =>
    intro l hl hb m k h
    by_cases hq : l.head? = some 34
    · cases l with
      | nil => cases hq
      | cons c r =>
        simp at hq
        subst hq
        rw [stg_quote] at h
        cases h
        simp
    · by_cases h0 : (chr l).2 = 0
      · rw [stg_bad l hq h0] at h; cases h
      · rw [stg_step l hq h0] at h
        have hs := chr_size l
        cases hd : stg (l.drop (chr l).2) with
        | none => rw [hd] at h; cases h
        | some x =>
          rw [hd] at h
          simp only [Option.map_some, Option.some.injEq, Prod.mk.injEq] at h
          obtain ⟨rfl, rfl⟩ := h
          intro y hy
          rcases List.mem_cons.1 hy with rfl | hy
          · exact chr_lt l hb
          · exact ih _ (by rw [List.length_drop]; omega) (fun z hz => hb z (List.mem_of_mem_drop hz)) x.1 x.2 hd y hy

/-- The value of decimal digits. -/
def val10 (l : List Nat) : Nat := l.foldl (fun v d => v * 10 + (d - 48)) 0
theorem val10_snoc (l : List Nat) (d : Nat) : val10 (l ++ [d]) = val10 l * 10 + (d - 48) := by unfold val10; rw [List.foldl_append]; rfl
theorem val10_mono (l m : List Nat) : val10 l ≤ val10 (l ++ m) := by
  unfold val10
  rw [List.foldl_append]
  generalize List.foldl _ 0 l = a
  induction m generalizing a with
  | nil => exact Nat.le_refl _
  | cons d m ih => exact Nat.le_trans (by omega) (ih (a * 10 + (d - 48)))
/-- The integer at the beginning (a digit stands there): none if it begins with 0 and goes on, or is too great. -/
def num (l : List Nat) : Option Nat :=
  if (l.head? = some 48 ∧ 1 < cnt isD l) ∨ 9223372036854775808 ≤ val10 (l.take (cnt isD l)) then none else some (val10 (l.take (cnt isD l)))

structure Tk where
  kind : Nat
  text : List Nat
  int : Int
  str : List Nat
def tk0 : Tk := ⟨0, [], 0, []⟩
/-- The token at the beginning, and its size; the size 0 if there is none. -/
def tok (l : List Nat) : Tk × Nat :=
  match l with
  | [] => (tk0, 0)
  | c :: r =>
    if isL c then (if cnt isLD (c :: r) ≤ 24 then (⟨1, (c :: r).take (cnt isLD (c :: r)), 0, []⟩, cnt isLD (c :: r)) else (tk0, 0))
    else if isD c then (match num (c :: r) with | some v => (⟨2, [], v, []⟩, cnt isD (c :: r)) | none => (tk0, 0))
    else if c = 34 then (match stg r with | some (m, k) => (⟨3, [], 0, m⟩, k + 1) | none => (tk0, 0))
    else if isS c then (⟨4, [c], 0, []⟩, 1)
    else (tk0, 0)
end Go.Proofs.YtnhncakkbfjdjaaDoor
