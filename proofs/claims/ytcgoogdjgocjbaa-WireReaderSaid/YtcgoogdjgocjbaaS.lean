/- Walks: lists of the reader, of both; the reference's End. -/
import Derived.Test.YtcgoogdjgocjbaaR
import Derived.Test.YtcgoogdjgocjbaaG
namespace Go.Proofs.Ytcgoogdjgocjbaa
open Go.RowKit

theorem two_rdr (w : World) (s : ByteArray) : Rdr ((w.alloc (.cells #[.string s, .int .i64 0] 52)).alloc (.cells #[.string ⟨#[]⟩, .int .i64 0] 52)) w.heap.size s 0 ∧ Rdr ((w.alloc (.cells #[.string s, .int .i64 0] 52)).alloc (.cells #[.string ⟨#[]⟩, .int .i64 0] 52)) (w.heap.size + 1) ⟨#[]⟩ 0 :=
  ⟨(Rdr.new w s _).up ((Up.refl _).alloc _), by have := Rdr.new (w.alloc (.cells #[.string s, .int .i64 0] 52)) ⟨#[]⟩ 52; rwa [World.size_alloc] at this⟩
/-- What reads a list, in the form of the readers. -/
def gls (s : ByteArray) : List ByteArray × Nat × Nat := ((lst gs s).2.1, (lst gs s).2.2, (lst gs s).1)
def RetNL (w : World) (g : Nat) (l : List ByteArray) (s : ByteArray) (x : Nat) (e : Ending) (w' : World) : Prop := ∃ A n c, e = .returned (.slice A n c) ∧ l.length = n ∧ n ≤ 1000000 ∧ Vals w' A (ss l) ∧ Rdr w' g s x ∧ w.grownBy w' (some g)
def RetRL (w : World) (l : List ByteArray) (s : ByteArray) (x : Nat) (e : Ending) (w' : World) : Prop := ∃ A n c, e = .returned (.tuple #[.slice A n c, .agg #[.string s, .int .i64 (x : Nat)]]) ∧ l.length = n ∧ n ≤ 1000000 ∧ Vals w' A (ss l) ∧ NewB w.heap.size A ∧ Up w w'
/-- A store into a reader's block does not touch a list that is not in it. -/
theorem Vals.cellv {w : World} {A : Option Addr} {l : List ByteArray} {g : Nat} (h : Vals w A (ss l)) (hn : NewB (g + 1) A) (j : Nat) (u : Value) : Vals (w.setCell ⟨g, j, none⟩ u) A (ss l) := by
  rcases h with h | ⟨ad, rfl, hb, hc⟩
  · exact Or.inl h
  · have hg := hn ad rfl
    exact Or.inr ⟨ad, rfl, by simpa using hb, fun i x hx => (World.cell?_setCell_other w _ _ u (fun e => by
      have h1 := congrArg Addr.block e
      rw [addBlock] at h1
      simp at h1
      omega)).trans (hc i x hx)⟩
theorem gl_out (s : ByteArray) : ∀ (k a : Nat), a ≤ s.size → ((gl gs s k a).1 = 0 → (gl gs s k a).2.2 ≤ s.size) := by
  intro k
  induction k with
  | zero => intro a ha _; exact ha
  | succ k ih =>
    intro a ha
    have h1 := gs_out' (s.extract a s.size)
    rw [ext_size] at h1
    rw [gl]
    split
    · intro h; rename_i h2; exact absurd h h2
    · rename_i h2
      have h3 := h1.1 (by omega)
      split
      · intro h; rename_i h4; exact absurd h h4
      · rename_i h4
        intro _
        exact ih _ (by omega) (by omega)
theorem lst_out (s : ByteArray) : (lst gs s).1 = 0 → (lst gs s).2.2 ≤ s.size := by
  have ho := gt_out s
  unfold lst
  split
  · rename_i h; intro h2; exact absurd h2 h
  · rename_i h
    have h3 := ho.1 (by omega)
    have h4 := gl_out s (gt s).1 (gt s).2.1 (by omega)
    unfold jn
    split
    · rename_i h5; intro h6; exact absurd h6 h5
    · intro _; exact h4 (by omega)
set_option maxRecDepth 1000000 in
set_option maxHeartbeats 4000000 in
theorem nextL_any (g : Nat) (s : ByteArray) (e : Nat) (w : World) (hs : s.size ≤ 100000) (hr : Rdr w g s e) : Calls Try.prog 56 #[.pointer (some ⟨g, 0, none⟩), .func (.func 20) #[] #[]] w (RetNL w g (nv [] gls s e) (nx gls s e).1 (nx gls s e).2) := by
  obtain ⟨hc0, hc1, hf0, hf1⟩ := id hr
  by_cases he : e = 0
  · subst he
    have hcall := fun w => glist_any s w hs
    have hN : nx gls s 0 = if (lst gs s).1 ≠ 0 then (s, (lst gs s).1) else (s.extract (lst gs s).2.2 s.size, 0) := rfl
    have hV : nv [] gls s 0 = if (lst gs s).1 ≠ 0 then [] else (lst gs s).2.1 := rfl
    have hq := lst_out s
    obtain ⟨l, hl⟩ : ∃ y, y = (lst gs s).2.1 := ⟨_, rfl⟩
    obtain ⟨q, hq1⟩ : ∃ q, q = (lst gs s).2.2 := ⟨_, rfl⟩
    obtain ⟨x, hx⟩ : ∃ x, x = (lst gs s).1 := ⟨_, rfl⟩
    rw [← hq1, ← hx] at hN hq
    rw [← hl, ← hx] at hV
    rw [← hl, ← hq1, ← hx] at hcall
    clear hl hq1 hx
    by_cases hx0 : x = 0
    · subst hx0
      have HN : Hid (nx gls s 0 = (s.extract q s.size, 0)) := by show _ = _; rw [hN, if_neg (fun h => h rfl)]
      have HV : Hid (nv [] gls s 0 = l) := by show _ = _; rw [hV, if_neg (fun h => h rfl)]
      have hqs : q ≤ s.size := hq rfl
      clear hN hV hq
      go_enter Try.func56, Try.ntmps56
      go_wp2_with (go_at_call 20; refine (hcall _).mono ?_; rintro e w1 ⟨A, n, c, rfl, h1, h2, h3, h4, hnb, hu⟩; have hr1 := hr.up hu; obtain ⟨hd0, hd1, hg0, hg1⟩ := id hr1)
      go_ret
      rw [HV.out, HN.out]
      exact ⟨A, n, c, rfl, (ss_len l).symm.trans h1, h3, h4.cellv (hnb.mono hr.lt) _ _, hr1.rest _, grown_up hu (grown_set w1 ⟨g, 0, none⟩ _)⟩
    · have HN : Hid (nx gls s 0 = (s, x)) := by show _ = _; rw [hN, if_pos hx0]
      have HV : Hid (nv [] gls s 0 = []) := by show _ = _; rw [hV, if_pos hx0]
      have hx' : ((x : Int) != 0) = true := by rw [bne_iff_ne]; omega
      clear hN hV hq
      go_enter Try.func56, Try.ntmps56
      go_wp2_with (go_at_call 20; refine (hcall _).mono ?_; rintro e w1 ⟨A, n, c, rfl, h1, h2, h3, h4, hnb, hu⟩; have hr1 := hr.up hu; obtain ⟨hd0, hd1, hg0, hg1⟩ := id hr1)
      go_ret
      rw [HV.out, HN.out]
      exact ⟨none, 0, 0, rfl, rfl, by omega, Or.inl rfl, hr1.err _, grown_up hu (grown_set w1 ⟨g, 1, none⟩ _)⟩
  · have HN : Hid (nx gls s e = (s, e)) := by show _ = _; unfold nx; rw [if_pos he]
    have HV : Hid (nv [] gls s e = []) := by show _ = _; unfold nv; rw [if_pos he]
    have he' : ((e : Int) != 0) = true := by rw [bne_iff_ne]; omega
    go_enter Try.func56, Try.ntmps56
    go_wp2
    go_ret
    rw [HV.out, HN.out]
    exact ⟨none, 0, 0, rfl, rfl, by omega, Or.inl rfl, hr, World.grownBy.refl w _⟩
set_option maxHeartbeats 1000000 in
theorem rList_any (g : Nat) (s : ByteArray) (e : Nat) (w : World) (hs : s.size ≤ 100000) (hr : Rdr w g s e) : Calls Try.prog 40 #[.pointer (some ⟨g, 0, none⟩)] w (RetNL w g (nv [] gls s e) (nx gls s e).1 (nx gls s e).2) := by
  go_enter Try.func40, Try.ntmps40
  go_wp2_with (go_at_call 56; refine (nextL_any g s e _ hs hr).mono ?_; rintro e' w1 ⟨A, n, c, rfl, h1⟩)
  go_ret
  exact ⟨A, n, c, rfl, h1⟩
set_option maxRecDepth 1000000 in
set_option maxHeartbeats 4000000 in
theorem rrList_any (s : ByteArray) (e : Nat) (w : World) (hs : s.size ≤ 100000) : Calls Try.prog 39 #[.agg #[.string s, .int .i64 (e : Nat)]] w (RetRL w (nv [] gls s e) (nx gls s e).1 (nx gls s e).2) := by
  by_cases he : e = 0
  · subst he
    have hcall := fun w => rglist_any s w hs
    have hN : nx gls s 0 = if (lst gs s).1 ≠ 0 then (s, (lst gs s).1) else (s.extract (lst gs s).2.2 s.size, 0) := rfl
    have hV : nv [] gls s 0 = if (lst gs s).1 ≠ 0 then [] else (lst gs s).2.1 := rfl
    have hq := lst_out s
    obtain ⟨l, hl⟩ : ∃ y, y = (lst gs s).2.1 := ⟨_, rfl⟩
    obtain ⟨q, hq1⟩ : ∃ q, q = (lst gs s).2.2 := ⟨_, rfl⟩
    obtain ⟨x, hx⟩ : ∃ x, x = (lst gs s).1 := ⟨_, rfl⟩
    rw [← hq1, ← hx] at hN hq
    rw [← hl, ← hx] at hV
    rw [← hl, ← hq1, ← hx] at hcall
    clear hl hq1 hx
    by_cases hx0 : x = 0
    · subst hx0
      have HN : Hid (nx gls s 0 = (s.extract q s.size, 0)) := by show _ = _; rw [hN, if_neg (fun h => h rfl)]
      have HV : Hid (nv [] gls s 0 = l) := by show _ = _; rw [hV, if_neg (fun h => h rfl)]
      have hqs : q ≤ s.size := hq rfl
      clear hN hV hq
      have hsl : ∀ W : World, (Instr.slice 9 (.string s) (some (.int .i64 (q : Int))) none none).run Try.prog W = .ok (.string (s.extract q s.size)) W := fun W => by rw [run_slice_string_l W _ _ Try.underlying9 .i64 _ (by omega) (by omega)]; simp only [Int.toNat_natCast]
      go_enter Try.func39, Try.ntmps39
      go_wp2_with (go_at_call 27; refine (hcall _).mono ?_; rintro e w1 ⟨A, n, c, rfl, h1, h2, h3, h4, hnb, hu⟩; have b1 := (two_rdr w s).1.up hu; have b2 := (two_rdr w s).2.up hu; obtain ⟨b10, b11, b1f, b1g⟩ := id b1; obtain ⟨b20, b21, b2f, b2g⟩ := id b2)
      go_region
      all_goals go_wp2
      all_goals
        have hB := (b2.rest (s.extract q s.size)).err (0)
        have hq : ((w1.setCell ⟨w.heap.size + 1, 0, none⟩ (.string (s.extract q s.size))).setCell ⟨w.heap.size + 1, 1, none⟩ (.int .i64 (0))).cell? ⟨w.heap.size + 1, 0, none⟩ = some (.string (s.extract q s.size)) ∧ ((w1.setCell ⟨w.heap.size + 1, 0, none⟩ (.string (s.extract q s.size))).setCell ⟨w.heap.size + 1, 1, none⟩ (.int .i64 (0))).cell? ⟨w.heap.size + 1, 1, none⟩ = some (.int .i64 (0)) := ⟨hB.c0, hB.c1⟩
        have hn1 : NewB (w.heap.size + 1 + 1) A := hnb.mono (by simp)
        have hup : Up w ((w1.setCell ⟨w.heap.size + 1, 0, none⟩ (.string (s.extract q s.size))).setCell ⟨w.heap.size + 1, 1, none⟩ (.int .i64 (0))).drew := Up.drew (Up.setCell (p := ⟨w.heap.size + 1, 1, none⟩) (Up.setCell (p := ⟨w.heap.size + 1, 0, none⟩) ((((Up.refl w).alloc _).alloc _).trans hu) (by simp) _) (by simp) _)
        refine bodyPost_ret (v := .tuple #[.slice A n c, .agg #[.string (s.extract q s.size), .int .i64 (0)]]) (by simp [results, Try.results39, go_sem, hq.1, hq.2]) rfl ?_
        rw [HV.out, HN.out]
        exact ⟨A, n, c, rfl, (ss_len l).symm.trans h1, h3, ((h4.cellv hn1 0 _).cellv hn1 1 _).up ((Up.refl _).drew), hn1.mono (by omega), hup⟩
    · have HN : Hid (nx gls s 0 = (s, x)) := by show _ = _; rw [hN, if_pos hx0]
      have HV : Hid (nv [] gls s 0 = []) := by show _ = _; rw [hV, if_pos hx0]
      have hx' : ((x : Int) != 0) = true := by rw [bne_iff_ne]; omega
      clear hN hV hq
      go_enter Try.func39, Try.ntmps39
      go_wp2_with (go_at_call 27; refine (hcall _).mono ?_; rintro e w1 ⟨A, n, c, rfl, h1, h2, h3, h4, hnb, hu⟩; have b1 := (two_rdr w s).1.up hu; have b2 := (two_rdr w s).2.up hu; obtain ⟨b10, b11, b1f, b1g⟩ := id b1; obtain ⟨b20, b21, b2f, b2g⟩ := id b2)
      go_region
      all_goals go_wp2
      all_goals
        have hB := (b2.rest (s)).err (x)
        have hq : ((w1.setCell ⟨w.heap.size + 1, 0, none⟩ (.string (s))).setCell ⟨w.heap.size + 1, 1, none⟩ (.int .i64 ((x : Nat)))).cell? ⟨w.heap.size + 1, 0, none⟩ = some (.string (s)) ∧ ((w1.setCell ⟨w.heap.size + 1, 0, none⟩ (.string (s))).setCell ⟨w.heap.size + 1, 1, none⟩ (.int .i64 ((x : Nat)))).cell? ⟨w.heap.size + 1, 1, none⟩ = some (.int .i64 ((x : Nat))) := ⟨hB.c0, hB.c1⟩
        have hup : Up w ((w1.setCell ⟨w.heap.size + 1, 0, none⟩ (.string (s))).setCell ⟨w.heap.size + 1, 1, none⟩ (.int .i64 ((x : Nat)))).drew := Up.drew (Up.setCell (p := ⟨w.heap.size + 1, 1, none⟩) (Up.setCell (p := ⟨w.heap.size + 1, 0, none⟩) ((((Up.refl w).alloc _).alloc _).trans hu) (by simp) _) (by simp) _)
        refine bodyPost_ret (v := .tuple #[.slice none 0 0, .agg #[.string (s), .int .i64 ((x : Nat))]]) (by simp [results, Try.results39, go_sem, hq.1, hq.2]) rfl ?_
        rw [HV.out, HN.out]
        exact ⟨none, 0, 0, rfl, rfl, by omega, Or.inl rfl, NewB.none_ _, hup⟩
  · have HN : Hid (nx gls s e = (s, e)) := by show _ = _; unfold nx; rw [if_pos he]
    have HV : Hid (nv [] gls s e = []) := by show _ = _; unfold nv; rw [if_pos he]
    have he' : ((e : Int) != 0) = true := by rw [bne_iff_ne]; omega
    go_enter Try.func39, Try.ntmps39
    go_wp2
    go_region
    all_goals go_wp2
    all_goals exact bodyPost_ret (v := .tuple #[.slice none 0 0, .agg #[.string s, .int .i64 (e : Nat)]]) (by simp [results, Try.results39, go_sem]) rfl (by rw [HV.out, HN.out]; exact ⟨none, 0, 0, rfl, rfl, by omega, Or.inl rfl, NewB.none_ _, by first | exact (((Up.refl w).alloc _).alloc _).drew | (repeat (first | exact Up.refl w | apply Up.alloc | apply Up.drew | apply Up.drewN))⟩)
set_option maxRecDepth 1000000 in
set_option maxHeartbeats 4000000 in
theorem rrEnd_any (s : ByteArray) (e : Nat) (w : World) : Calls Try.prog 42 #[.agg #[.string s, .int .i64 (e : Nat)]] w fun e' w' => e' = .returned (.int .i64 (en s e : Nat)) ∧ Up w w' := by
  by_cases he : e = 0
  · subst he
    by_cases hz : s.size = 0
    · obtain rfl : s = ⟨#[]⟩ := by
        obtain ⟨⟨l⟩⟩ := s
        cases l with
        | nil => rfl
        | cons a l => cases hz
      go_enter Try.func42, Try.ntmps42
      go_wp2
      go_ret
      exact ⟨rfl, (Up.refl w).alloc _⟩
    · have hz' := size_ne hz
      have HE : Hid (en s 0 = 2) := by show en s 0 = 2; unfold en; rw [if_neg (fun h => h rfl), if_neg hz]
      go_enter Try.func42, Try.ntmps42
      go_wp2
      go_ret
      exact ⟨by rw [HE.out] <;> rfl, (Up.refl w).alloc _⟩
  · have HE : Hid (en s e = e) := by show en s e = e; unfold en; rw [if_pos he]
    have he' : ((e : Int) == 0) = false := by rw [beq_eq_false_iff_ne]; omega
    go_enter Try.func42, Try.ntmps42
    go_wp2
    go_ret
    exact ⟨by rw [HE.out] <;> rfl, (Up.refl w).alloc _⟩
end Go.Proofs.Ytcgoogdjgocjbaa
