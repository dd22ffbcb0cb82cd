/- Plain words on texts, the third part: the words of tokens are read as these tokens. -/
import Derived.Test.YtnhncakkbfjdjaaDoorLn
namespace Go.Proofs.YtnhncakkbfjdjaaDoor

/-- Decimal digits. -/
def decN (u : Nat) : List Nat := if h : u < 10 then [48 + u] else decN (u / 10) ++ [48 + u % 10]
termination_by u
decreasing_by omega
theorem decN_small {u : Nat} (h : u < 10) : decN u = [48 + u] := by rw [decN, dif_pos h]
theorem decN_big {u : Nat} (h : ¬ u < 10) : decN u = decN (u / 10) ++ [48 + u % 10] := by rw [decN, dif_neg h]
theorem decN_ne (u : Nat) : decN u ≠ [] := by
  by_cases h : u < 10
  · rw [decN_small h]; simp
  · rw [decN_big h]; simp
theorem decN_dig (u : Nat) : ∀ x ∈ decN u, isD x = true := by
  induction u using Nat.strongRecOn with
  | _ u ih =>
    intro x hx
    by_cases h : u < 10
    · rw [decN_small h] at hx
      simp at hx
      subst hx
      unfold isD; simp; omega
    · rw [decN_big h] at hx
      rcases List.mem_append.1 hx with hx | hx
      · exact ih _ (by omega) x hx
      · simp at hx
        subst hx
        unfold isD; simp; omega
theorem decN_val (u : Nat) : val10 (decN u) = u := by
  induction u using Nat.strongRecOn with
  | _ u ih =>
    by_cases h : u < 10
    · rw [decN_small h]; unfold val10; simp
    · rw [decN_big h, val10_snoc, ih _ (by omega)]; omega
theorem decN_head (u : Nat) (h : 10 ≤ u) : (decN u).head? ≠ some 48 := by
  induction u using Nat.strongRecOn with
  | _ u ih =>
    rw [decN_big (by omega)]
    by_cases h2 : u / 10 < 10
    · rw [decN_small h2]; simp; omega
    · have := ih (u / 10) (by omega) (by omega)
      rw [List.head?_append]
      cases hd : (decN (u / 10)).head? with
      | none => exact absurd (List.head?_eq_none_iff.1 hd) (decN_ne _)
      | some y => rw [hd] at this; simpa using this
theorem decN_len : ∀ (k u : Nat), u < 10 ^ (k + 1) → (decN u).length ≤ k + 1
  | 0, u, h => by rw [decN_small (by simpa using h)]; simp
  | k + 1, u, h => by
    by_cases h1 : u < 10
    · rw [decN_small h1]; simp
    · rw [decN_big h1, List.length_append]
      have := decN_len k (u / 10) (by rw [Nat.pow_succ] at h; omega)
      simp only [List.length_cons, List.length_nil]
      omega
def itN (n : Int) : List Nat := if n < 0 then 45 :: decN n.natAbs else decN n.toNat
/-- A text of a token. -/
def word (t : Tk) : List Nat := if t.kind = 1 ∨ t.kind = 4 then t.text else if t.kind = 2 then itN t.int else if t.kind = 3 then quo t.str else []
def Good (t : Tk) : Prop :=
  (∃ c r, t = ⟨1, c :: r, 0, []⟩ ∧ isL c = true ∧ (∀ x ∈ r, isLD x = true) ∧ r.length + 1 ≤ 24) ∨ (∃ v : Nat, t = ⟨2, [], v, []⟩ ∧ v < 9223372036854775808) ∨ (∃ m, t = ⟨3, [], 0, m⟩ ∧ ∀ x ∈ m, x < 256) ∨ ∃ c, t = ⟨4, [c], 0, []⟩ ∧ isS c = true
theorem cnt_app (p : Nat → Bool) : ∀ (a : List Nat) (c : Nat) (r : List Nat), (∀ x ∈ a, p x = true) → p c = false → cnt p (a ++ c :: r) = a.length
  | [], c, r, _, hc => by simp [cnt, hc]
  | b :: a, c, r, h, hc => by
    rw [List.cons_append, cnt, if_pos (h b (by simp)), cnt_app p a c r (fun x hx => h x (by simp [hx])) hc]
    rfl
theorem cnt_all (p : Nat → Bool) : ∀ (a : List Nat), (∀ x ∈ a, p x = true) → cnt p a = a.length
  | [], _ => rfl
  | b :: a, h => by
    rw [cnt, if_pos (h b (by simp)), cnt_all p a (fun x hx => h x (by simp [hx]))]
    rfl
theorem white_not {c : Nat} (h : isW c = true) : isL c = false ∧ isD c = false ∧ c ≠ 34 ∧ isS c = false ∧ isLD c = false ∧ c ≠ 47 := by
  unfold isW at h
  simp at h
  rcases h with ((rfl | rfl) | rfl) | rfl <;> decide
theorem num_lt {l : List Nat} {v : Nat} (h : num l = some v) : v < 9223372036854775808 := by
  unfold num at h
  split at h
  · cases h
  · next hn => cases h; omega
theorem isL_LD {c : Nat} (h : isL c = true) : isLD c = true := by unfold isLD; rw [h]; rfl
theorem word_name (c : Nat) (r : List Nat) : word ⟨1, c :: r, 0, []⟩ = c :: r := rfl
theorem word_sym (c : Nat) : word ⟨4, [c], 0, []⟩ = [c] := rfl
theorem word_str (m : List Nat) : word ⟨3, [], 0, m⟩ = quo m := rfl
theorem word_int (v : Nat) : word ⟨2, [], v, []⟩ = decN v := by
  show itN (v : Int) = _
  unfold itN
  rw [if_neg (by omega), Int.toNat_natCast]
theorem tok_cases (l : List Nat) : (tok l).2 = 0 ∨ (∃ c r, l = c :: r ∧ isL c = true ∧ cnt isLD l ≤ 24 ∧ tok l = (⟨1, l.take (cnt isLD l), 0, []⟩, cnt isLD l)) ∨
    (∃ c r v, l = c :: r ∧ isL c = false ∧ isD c = true ∧ num l = some v ∧ tok l = (⟨2, [], (v : Nat), []⟩, cnt isD l)) ∨ (∃ r m k, l = 34 :: r ∧ stg r = some (m, k) ∧ tok l = (⟨3, [], 0, m⟩, k + 1)) ∨ ∃ c r, l = c :: r ∧ isS c = true ∧ tok l = (⟨4, [c], 0, []⟩, 1) := by
  cases l with
  | nil => exact .inl rfl
  | cons c r =>
    by_cases hL : isL c = true
    · by_cases h24 : cnt isLD (c :: r) ≤ 24
      · exact .inr (.inl ⟨c, r, rfl, hL, h24, by unfold tok; simp only [hL, h24, if_true]⟩)
      · exact .inl (by unfold tok; simp only [hL, h24, if_true, if_false])
    · have hL' : isL c = false := by simpa using hL
      by_cases hD : isD c = true
      · cases hn : num (c :: r) with
        | none => exact .inl (by unfold tok; simp only [hL', hD, hn, if_true, if_false, Bool.false_eq_true])
        | some v => exact .inr (.inr (.inl ⟨c, r, v, rfl, hL', hD, rfl, by unfold tok; simp only [hL', hD, hn, if_true, if_false, Bool.false_eq_true]⟩))
      · have hD' : isD c = false := by simpa using hD
        by_cases hq : c = 34
        · subst hq
          cases hs : stg r with
          | none => exact .inl (by unfold tok; simp only [hL', hD', hs, if_true, if_false, Bool.false_eq_true])
          | some x => exact .inr (.inr (.inr (.inl ⟨r, x.1, x.2, rfl, hs, by unfold tok; simp only [hL', hD', hs, if_true, if_false, Bool.false_eq_true]⟩)))
        · by_cases hS : isS c = true
          · exact .inr (.inr (.inr (.inr ⟨c, r, rfl, hS, by unfold tok; simp only [hL', hD', hq, hS, if_true, if_false, Bool.false_eq_true]⟩)))
          · exact .inl (by unfold tok; simp only [hL', hD', hq, hS, if_false, Bool.false_eq_true])
theorem tok_good (l : List Nat) (hl : ∀ x ∈ l, x < 256) (h : (tok l).2 ≠ 0) : Good (tok l).1 ∧ (word (tok l).1).length ≤ 4 * (tok l).2 + 20 := by
  rcases tok_cases l with h0 | ⟨c, r, rfl, hL, h24, e⟩ | ⟨c, r, v, rfl, hL, hD, hv, e⟩ | ⟨r, m, k, rfl, hm, e⟩ | ⟨c, r, rfl, hS, e⟩
  · exact absurd h0 h
  · rw [e]
    have h1 : cnt isLD (c :: r) = cnt isLD r + 1 := by rw [cnt, if_pos (isL_LD hL)]
    rw [h1, List.take_succ_cons]
    refine ⟨.inl ⟨c, _, rfl, hL, cnt_take isLD r, ?_⟩, ?_⟩
    · rw [List.length_take]; have := cnt_le isLD r; omega
    · rw [word_name]
      simp only [List.length_cons, List.length_take]
      omega
  · rw [e]
    refine ⟨.inr (.inl ⟨v, rfl, num_lt hv⟩), ?_⟩
    rw [word_int]
    have := decN_len 18 v (by have := num_lt hv; omega)
    omega
  · rw [e]
    refine ⟨.inr (.inr (.inl ⟨m, rfl, stg_lt _ r (Nat.le_refl _) (fun x hx => hl x (by simp [hx])) m k hm⟩)), ?_⟩
    have h1 := stg_size _ r (Nat.le_refl _) m k hm
    have h2 := flat_len m
    rw [word_str, quo_len]
    show _ ≤ 4 * (k + 1) + 20
    omega
  · rw [e]
    exact ⟨.inr (.inr (.inr ⟨c, rfl, hS⟩)), by rw [word_sym]; simp⟩
theorem dig_not {c : Nat} (h : isD c = true) : isL c = false ∧ isW c = false ∧ c ≠ 47 := by
  unfold isD at h
  simp at h
  refine ⟨?_, ?_, by omega⟩
  · unfold isL; simp; omega
  · unfold isW; simp; omega
theorem let_not {c : Nat} (h : isL c = true) : isW c = false ∧ c ≠ 47 := by
  unfold isL at h
  simp at h
  refine ⟨?_, by omega⟩
  unfold isW; simp; omega
theorem sym_not {c : Nat} (h : isS c = true) : isW c = false ∧ isL c = false ∧ isD c = false ∧ c ≠ 34 := by
  unfold isS symL at h
  simp at h
  rcases h with rfl | rfl | rfl | rfl | rfl | rfl | rfl | rfl | rfl | rfl | rfl | rfl | rfl | rfl | rfl | rfl | rfl | rfl <;> decide
theorem good_tok (t : Tk) (h : Good t) (c : Nat) (r : List Nat) (hc : isW c = true) : tok (word t ++ c :: r) = (t, (word t).length) ∧ Begins (word t ++ c :: r) ∧ (word t).length ≠ 0 := by
  obtain ⟨w1, w2, w3, w4, w5, w6⟩ := white_not hc
  rcases h with ⟨b, a, rfl, hb, ha, h24⟩ | ⟨v, rfl, hv⟩ | ⟨m, rfl, hm⟩ | ⟨b, rfl, hb⟩
  · have hall : ∀ x ∈ b :: a, isLD x = true := fun x hx => by
      rcases List.mem_cons.1 hx with rfl | hx
      · exact isL_LD hb
      · exact ha x hx
    have hn := cnt_app isLD (b :: a) c r hall w5
    rw [word_name]
    refine ⟨?_, ⟨by simp, by simpa using (let_not hb).1, fun e => (let_not hb).2 (by simpa using e.1)⟩, by simp⟩
    rw [List.cons_append] at hn ⊢
    unfold tok
    simp only [hb, if_true, hn]
    rw [if_pos (by simpa using h24), ← List.cons_append, List.take_left]
  · have hall := decN_dig v
    have hn := cnt_app isD (decN v) c r hall w2
    have hne := decN_ne v
    have hh : (decN v).head? = some 48 → (decN v).length = 1 := fun e => by
      by_cases h10 : v < 10
      · rw [decN_small h10]; rfl
      · exact absurd e (decN_head v (by omega))
    have hval := decN_val v
    rw [word_int]
    generalize hd : decN v = ds at *
    cases ds with
    | nil => exact absurd rfl hne
    | cons b a =>
      have hb : isD b = true := hall b (by simp)
      obtain ⟨b1, b2, b3⟩ := dig_not hb
      refine ⟨?_, ⟨by simp, by simpa using b2, fun e => b3 (by simpa using e.1)⟩, by simp⟩
      have hnum : num (b :: a ++ c :: r) = some v := by
        unfold num
        rw [hn, List.take_left, hval, if_neg]
        rintro (⟨e, h1⟩ | h1)
        · have := hh (by simpa using e); omega
        · omega
      rw [List.cons_append] at hn hnum ⊢
      unfold tok
      simp only [b1, hb, if_true, hnum, hn]
      rfl
  · rw [word_str]
    refine ⟨tok_quo m _ hm, ⟨by simp [quo], by simp [quo]; decide, fun e => by simp [quo] at e⟩, by rw [quo_len]; omega⟩
  · obtain ⟨s1, s2, s3, s4⟩ := sym_not hb
    rw [word_sym]
    refine ⟨?_, ⟨by simp, by simpa using s1, fun e => w6 (by simpa using e.2)⟩, by simp⟩
    show tok (b :: c :: r) = _
    unfold tok
    simp only [s2, s3, hb, if_true]
    rw [if_neg (by simp), if_neg (by simp), if_neg s4]
    rfl
/-- What stands between words. -/
def sepL (k : Nat) : List Nat := if k = 0 then [32] else if k = 1 then [10] else if k = 2 then [9, 13] else if k = 3 then [32, 47, 47, 32, 34, 10] else [32, 47, 47, 10]
theorem sep_len (k : Nat) : (sepL k).length ≤ 6 := by
  unfold sepL
  split
  · simp
  · split
    · simp
    · split
      · simp
      · split <;> simp
theorem sep_head (k : Nat) : ∃ c r, sepL k = c :: r ∧ isW c = true := by
  unfold sepL
  split
  · exact ⟨_, _, rfl, rfl⟩
  · split
    · exact ⟨_, _, rfl, rfl⟩
    · split
      · exact ⟨_, _, rfl, rfl⟩
      · split <;> exact ⟨_, _, rfl, rfl⟩
theorem sep_toks (k : Nat) (r : List Nat) (n : Nat) : ∃ m, toks (sepL k ++ r) n = toks r m := by
  unfold sepL
  split
  · exact ⟨n, by rw [List.cons_append, toks_white _ _ _ rfl]; rfl⟩
  · split
    · exact ⟨n + 1, by rw [List.cons_append, toks_white _ _ _ rfl]; rfl⟩
    · split
      · exact ⟨n, by rw [List.cons_append, toks_white _ _ _ rfl, List.cons_append, toks_white _ _ _ rfl]; rfl⟩
      · split
        · refine ⟨n + 1, ?_⟩
          rw [List.cons_append, toks_white _ _ _ rfl, toks_comment _ _ rfl rfl]
          show toks (10 :: r) n = _
          rw [toks_white _ _ _ rfl]
          rfl
        · refine ⟨n + 1, ?_⟩
          rw [List.cons_append, toks_white _ _ _ rfl, toks_comment _ _ rfl rfl]
          show toks (10 :: r) n = _
          rw [toks_white _ _ _ rfl]
          rfl
def txtL (k : Nat) (ts : List Tk) : List Nat := ts.flatMap fun t => word t ++ sepL k
theorem toks_words (k : Nat) : ∀ (ts : List Tk) (n : Nat), (∀ t ∈ ts, Good t) → ∃ us, toks (txtL k ts) n = .inr us ∧ us.map (·.1) = ts
  | [], n, _ => ⟨[], rfl, rfl⟩
  | t :: ts, n, h => by
    obtain ⟨c, r, hs, hc⟩ := sep_head k
    have ht := good_tok t (h t (by simp)) c (r ++ txtL k ts) hc
    have e : txtL k (t :: ts) = word t ++ c :: (r ++ txtL k ts) := by
      show (_ ++ sepL k) ++ txtL k ts = _
      rw [hs]; simp
    rw [e, toks_tok _ n ht.2.1 (by rw [ht.1]; exact ht.2.2), ht.1]
    simp only [List.drop_left]
    have e2 : c :: (r ++ txtL k ts) = sepL k ++ txtL k ts := by rw [hs]; rfl
    rw [e2]
    obtain ⟨m, hm⟩ := sep_toks k (txtL k ts) n
    rw [hm]
    obtain ⟨us, h1, h2⟩ := toks_words k ts m (fun t ht => h t (by simp [ht]))
    rw [h1]
    exact ⟨_, rfl, by simp [h2]⟩
theorem toks_good (k : Nat) : ∀ (N : Nat) (l : List Nat) (n : Nat) (ts : List (Tk × Nat)), l.length ≤ N → (∀ x ∈ l, x < 256) → toks l n = .inr ts → (∀ t ∈ ts, Good t.1) ∧ (txtL k (ts.map (·.1))).length ≤ 30 * l.length ∧ ts.length ≤ l.length := by
  intro N
  induction N with
  | zero =>
    intro l n ts hN _ h
    cases l with
    | nil => rw [toks_nil] at h; cases h; exact ⟨by simp, by simp [txtL], by simp⟩
    | cons c r => simp at hN
  | succ N ih =>
    intro l n ts hN hl h
    cases l with
    | nil => rw [toks_nil] at h; cases h; exact ⟨by simp, by simp [txtL], by simp⟩
    | cons c r =>
      simp only [List.length_cons] at hN ⊢
      by_cases hw : isW c = true
      · rw [toks_white _ _ _ hw] at h
        have := ih r _ ts (by omega) (fun x hx => hl x (by simp [hx])) h
        exact ⟨this.1, by omega, by omega⟩
      · by_cases hc : (c :: r).head? = some 47 ∧ (c :: r).tail.head? = some 47
        · rw [toks_comment _ _ hc.1 hc.2] at h
          have h1 : 1 ≤ cnt (fun x => x != 10) (c :: r) := cnt_pos _ _ _ (by have := hc.1; simp at this; rw [this]; rfl)
          have hlen : ((c :: r).drop (cnt (fun x => x != 10) (c :: r))).length ≤ r.length := by rw [List.length_drop]; simp only [List.length_cons]; omega
          have := ih _ _ ts (by omega) (fun x hx => hl x (List.mem_of_mem_drop hx)) h
          exact ⟨this.1, by omega, by omega⟩
        · have hB : Begins (c :: r) := ⟨by simp, by simpa using hw, hc⟩
          by_cases h0 : (tok (c :: r)).2 = 0
          · rw [toks_bad _ _ hB h0] at h; cases h
          · rw [toks_tok _ _ hB h0] at h
            have hsz := tok_size (c :: r)
            simp only [List.length_cons] at hsz
            have hlen : ((c :: r).drop (tok (c :: r)).2).length = r.length + 1 - (tok (c :: r)).2 := by rw [List.length_drop]; simp only [List.length_cons]
            cases hd : toks ((c :: r).drop (tok (c :: r)).2) n with
            | inl e => rw [hd] at h; cases h
            | inr us =>
              rw [hd] at h
              cases h
              obtain ⟨i1, i2, i3⟩ := ih _ _ us (by omega) (fun x hx => hl x (List.mem_of_mem_drop hx)) hd
              obtain ⟨g1, g2⟩ := tok_good (c :: r) hl h0
              have hs := sep_len k
              refine ⟨fun t ht => ?_, ?_, ?_⟩
              · rcases List.mem_cons.1 ht with rfl | ht
                · exact g1
                · exact i1 t ht
              · show ((word _ ++ sepL k) ++ txtL k (us.map (·.1))).length ≤ _
                simp only [List.length_append]
                omega
              · simp only [List.length_append, List.length_cons, List.length_nil]; omega
end Go.Proofs.YtnhncakkbfjdjaaDoor
