/- Walks: the word of a token, by both. -/
import Derived.Test.YtnhncakkbfjdjaaDoorWw
namespace Go.Proofs.YtnhncakkbfjdjaaDoor
open Go.RowKit Go.Sort

theorem dec_map (u : Nat) : (Lib.decDigits u).map UInt8.toNat = decN u := by
  induction u using Nat.strongRecOn with
  | _ u ih =>
    rw [Lib.decDigits, decN]
    by_cases h : u < 10
    · rw [dif_pos h, dif_pos h]
      show [(UInt8.ofNat (48 + u)).toNat] = _
      rw [UInt8.toNat_ofNat_of_lt' (show 48 + u < 256 by omega)]
    · rw [dif_neg h, dif_neg h, List.map_append, ih _ (by omega)]
      congr 1
      show [(UInt8.ofNat (48 + u % 10)).toNat] = _
      rw [UInt8.toNat_ofNat_of_lt' (show 48 + u % 10 < 256 by omega)]
theorem itoa_bs (n : Int) : (⟨(Lib.itoa n).toArray⟩ : ByteArray) = bs (itN n) := by
  rw [← bs_by (⟨(Lib.itoa n).toArray⟩ : ByteArray)]
  congr 1
  show (Lib.itoa n).map UInt8.toNat = _
  unfold Lib.itoa itN
  split
  · rw [List.map_cons, dec_map]; rfl
  · exact dec_map _
theorem up_grow' {a w : World} (h : Up a w) (os : Array Obj) : Up a (grow w os) :=
  ⟨h.os, h.tape, h.output, by rw [size_grow]; have := h.size; omega, fun k hk => by
    rw [← h.block k hk]
    show (w.heap ++ os)[k]? = w.heap[k]?
    exact Array.getElem?_append_left (by have := h.size; omega)⟩
theorem fmtInt_any (n : Int) (h0 : -9223372036854775808 ≤ n) (h1 : n ≤ 9223372036854775807) (w : World) (hTab : Tabs w) : Calls Tryd.prog 33 #[.int .i64 n, .int .i64 10] w (RetStr w (bs (itN n))) := by
  refine (Tryd.strconv_FormatInt_10 n h0 h1 w hTab.pow).mono ?_
  rintro e w' ⟨rfl, k, os, rfl⟩
  exact ⟨by rw [itoa_bs], up_grow' ((Up.refl w).drewN k) os⟩
/-- The word of a token. -/
def wordB (kd : Int) (a : ByteArray) (n : Int) (b : ByteArray) : ByteArray := if kd = 1 ∨ kd = 4 then a else if kd = 2 then bs (itN n) else if kd = 3 then bs (quo (by_ b)) else ⟨#[]⟩
theorem wordB_tk (t : Tk) (ht : ∀ x ∈ t.str, x < 256) : wordB t.kind (bs t.text) t.int (bs t.str) = bs (word t) := by
  unfold wordB word
  by_cases h1 : t.kind = 1 ∨ t.kind = 4
  · rw [if_pos (by omega), if_pos h1]
  · rw [if_neg (by omega), if_neg h1]
    by_cases h2 : t.kind = 2
    · rw [if_pos (by omega), if_pos h2]
    · rw [if_neg (by omega), if_neg h2]
      by_cases h3 : t.kind = 3
      · rw [if_pos (by omega), if_pos h3, by_bs _ ht]
      · rw [if_neg (by omega), if_neg h3]; rfl
/-- An open Int bound kept out of the walk's sight. -/
structure Fits (n : Int) : Prop where
  lo : -9223372036854775808 ≤ n
  hi : n ≤ 9223372036854775807
set_option maxRecDepth 100000 in
set_option maxHeartbeats 2000000 in
theorem word_any (kd : Int) (a : ByteArray) (n : Int) (b : ByteArray) (ln : Int) (w : World) (hTab : Tabs w) (hb : b.size ≤ 100000) (hn : Fits n) : Calls Tryd.prog 15 #[.agg #[.int .i64 kd, .string a, .int .i64 n, .string b, .int .i64 ln]] w (RetStr w (wordB kd a n b)) := by
  have HTab := hide hTab
  clear hTab
  by_cases h1 : kd = 1 ∨ kd = 4
  · have HT : Hid (wordB kd a n b = a) := by show _ = _; unfold wordB; rw [if_pos h1]
    have E : (kd == 1) = true ∨ ((kd == 1) = false ∧ (kd == 4) = true) := by
      rcases h1 with h | h
      · exact .inl (by rw [h]; rfl)
      · exact .inr ⟨by rw [h]; rfl, by rw [h]; rfl⟩
    clear h1
    rcases E with e1 | ⟨e1, e2⟩
    all_goals
      go_enter Tryd.func15, Tryd.ntmps15
      go_wp2
      go_ret
      exact ⟨by rw [HT.out]; rfl, (Up.refl _).alloc _⟩
  · have e1 : (kd == 1) = false := by rw [beq_eq_false_iff_ne]; omega
    have e4 : (kd == 4) = false := by rw [beq_eq_false_iff_ne]; omega
    by_cases h2 : kd = 2
    · have HT : Hid (wordB kd a n b = bs (itN n)) := by show _ = _; unfold wordB; rw [if_neg h1, if_pos h2]
      have e2 : (kd == 2) = true := by rw [h2]; rfl
      clear h1 h2
      go_enter Tryd.func15, Tryd.ntmps15
      go_wp2_with fail
      refine (fmtInt_any n hn.lo hn.hi _ (HTab.out.up ((Up.refl _).alloc _))).mono ?_
      rintro e w2 ⟨rfl, hu⟩
      go_wp2
      go_ret
      exact ⟨by rw [HT.out]; rfl, up_alloc_up hu⟩
    · have e2 : (kd == 2) = false := by rw [beq_eq_false_iff_ne]; omega
      by_cases h3 : kd = 3
      · have HT : Hid (wordB kd a n b = bs (quo (by_ b))) := by show _ = _; unfold wordB; rw [if_neg h1, if_neg h2, if_pos h3]
        have e3 : (kd == 3) = true := by rw [h3]; rfl
        clear h1 h2 h3
        go_enter Tryd.func15, Tryd.ntmps15
        go_wp2_with fail
        refine (quote_any b _ hb).mono ?_
        rintro e w2 ⟨rfl, hu⟩
        go_wp2
        go_ret
        exact ⟨by rw [HT.out]; rfl, up_alloc_up hu⟩
      · have HT : Hid (wordB kd a n b = ⟨#[]⟩) := by show _ = _; unfold wordB; rw [if_neg h1, if_neg h2, if_neg h3]
        have e3 : (kd == 3) = false := by rw [beq_eq_false_iff_ne]; omega
        clear h1 h2 h3
        go_enter Tryd.func15, Tryd.ntmps15
        go_wp2
        go_ret
        exact ⟨by rw [HT.out]; rfl, (Up.refl _).alloc _⟩
set_option maxRecDepth 100000 in
set_option maxHeartbeats 2000000 in
theorem rword_any (kd : Int) (a : ByteArray) (n : Int) (b : ByteArray) (ln : Int) (w : World) (hTab : Tabs w) (hb : b.size ≤ 100000) (hn : Fits n) : Calls Tryd.prog 16 #[.agg #[.int .i64 kd, .string a, .int .i64 n, .string b, .int .i64 ln]] w (RetStr w (wordB kd a n b)) := by
  have HTab := hide hTab
  clear hTab
  by_cases h1 : kd = 1 ∨ kd = 4
  · have HT : Hid (wordB kd a n b = a) := by show _ = _; unfold wordB; rw [if_pos h1]
    have E : (kd == 1) = true ∨ ((kd == 1) = false ∧ (kd == 4) = true) := by
      rcases h1 with h | h
      · exact .inl (by rw [h]; rfl)
      · exact .inr ⟨by rw [h]; rfl, by rw [h]; rfl⟩
    clear h1
    rcases E with e1 | ⟨e1, e2⟩
    all_goals
      go_enter Tryd.func16, Tryd.ntmps16
      go_wp2
      go_ret
      exact ⟨by rw [HT.out]; rfl, (Up.refl _).alloc _⟩
  · have e1 : (kd == 1) = false := by rw [beq_eq_false_iff_ne]; omega
    have e4 : (kd == 4) = false := by rw [beq_eq_false_iff_ne]; omega
    by_cases h2 : kd = 2
    · have HT : Hid (wordB kd a n b = bs (itN n)) := by show _ = _; unfold wordB; rw [if_neg h1, if_pos h2]
      have e2 : (kd == 2) = true := by rw [h2]; rfl
      clear h1 h2
      go_enter Tryd.func16, Tryd.ntmps16
      go_wp2_with fail
      refine (fmtInt_any n hn.lo hn.hi _ (HTab.out.up ((Up.refl _).alloc _))).mono ?_
      rintro e w2 ⟨rfl, hu⟩
      go_wp2
      go_ret
      exact ⟨by rw [HT.out]; rfl, up_alloc_up hu⟩
    · have e2 : (kd == 2) = false := by rw [beq_eq_false_iff_ne]; omega
      by_cases h3 : kd = 3
      · have HT : Hid (wordB kd a n b = bs (quo (by_ b))) := by show _ = _; unfold wordB; rw [if_neg h1, if_neg h2, if_pos h3]
        have e3 : (kd == 3) = true := by rw [h3]; rfl
        clear h1 h2 h3
        go_enter Tryd.func16, Tryd.ntmps16
        go_wp2_with fail
        refine (rquote_any b _ hb).mono ?_
        rintro e w2 ⟨rfl, hu⟩
        go_wp2
        go_ret
        exact ⟨by rw [HT.out]; rfl, up_alloc_up hu⟩
      · have HT : Hid (wordB kd a n b = ⟨#[]⟩) := by show _ = _; unfold wordB; rw [if_neg h1, if_neg h2, if_neg h3]
        have e3 : (kd == 3) = false := by rw [beq_eq_false_iff_ne]; omega
        clear h1 h2 h3
        go_enter Tryd.func16, Tryd.ntmps16
        go_wp2
        go_ret
        exact ⟨by rw [HT.out]; rfl, (Up.refl _).alloc _⟩
end Go.Proofs.YtnhncakkbfjdjaaDoor
