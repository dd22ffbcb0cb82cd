/- Walks: what reads lists, of both. -/
import Derived.Test.YtcgoogdjgocjbaaE
import Derived.Test.YtcgoogdjgocjbaaF
namespace Go.Proofs.Ytcgoogdjgocjbaa
open Go.RowKit

/-- The parts that are read from a place on, by what reads one: the error, the parts, where they end. -/
def gl {α : Type} (g : ByteArray → α × Nat × Nat) (s : ByteArray) : Nat → Nat → Nat × List α × Nat
  | 0, at_ => (0, [], at_)
  | k + 1, at_ => if (g (s.extract at_ s.size)).2.2 ≠ 0 then ((g (s.extract at_ s.size)).2.2, [], 0) else
      if (gl g s k (at_ + (g (s.extract at_ s.size)).2.1)).1 ≠ 0 then ((gl g s k (at_ + (g (s.extract at_ s.size)).2.1)).1, [], 0)
      else (0, (g (s.extract at_ s.size)).1 :: (gl g s k (at_ + (g (s.extract at_ s.size)).2.1)).2.1, (gl g s k (at_ + (g (s.extract at_ s.size)).2.1)).2.2)
/-- What was read and what follows. -/
def jn {α : Type} (o : List α) (r : Nat × List α × Nat) : Nat × List α × Nat := if r.1 ≠ 0 then (r.1, [], 0) else (0, o ++ r.2.1, r.2.2)
theorem gl_end {α : Type} (g : ByteArray → α × Nat × Nat) (s : ByteArray) (o : List α) (a : Nat) : jn o (gl g s 0 a) = (0, o, a) := by simp [jn, gl]
theorem gl_err {α : Type} (g : ByteArray → α × Nat × Nat) (s : ByteArray) (o : List α) (k a : Nat) (h : (g (s.extract a s.size)).2.2 ≠ 0) : jn o (gl g s (k + 1) a) = ((g (s.extract a s.size)).2.2, [], 0) := by
  unfold jn; rw [gl, if_pos h, if_pos h]
theorem gl_go {α : Type} (g : ByteArray → α × Nat × Nat) (s : ByteArray) (o : List α) (k a : Nat) (h : (g (s.extract a s.size)).2.2 = 0) : jn o (gl g s (k + 1) a) = jn (o ++ [(g (s.extract a s.size)).1]) (gl g s k (a + (g (s.extract a s.size)).2.1)) := by
  rw [gl, if_neg (fun h2 => h2 h)]
  generalize gl g s k (a + (g (s.extract a s.size)).2.1) = r
  by_cases h2 : r.1 = 0 <;> simp [jn, h2]
/-- What is read from a list's beginning. -/
def lst {α : Type} (g : ByteArray → α × Nat × Nat) (s : ByteArray) : Nat × List α × Nat := if (gt s).2.2 ≠ 0 then ((gt s).2.2, [], 0) else jn [] (gl g s (gt s).1 (gt s).2.1)
/-- What reads an integer. -/
def gi (s : ByteArray) : Int × Nat × Nat := (uz (gt s).1, (gt s).2.1, (gt s).2.2)
def RetLs (w : World) (vs : List Value) (at_ err : Nat) (e : Ending) (w' : World) : Prop := ∃ A n c, e = .returned (.tuple #[.slice A n c, .int .i64 (at_ : Nat), .int .i64 (err : Nat)]) ∧ vs.length = n ∧ n ≤ c ∧ n ≤ 1000000 ∧ Vals w' A vs ∧ NewB w.heap.size A ∧ Up w w'
theorem gt_num (s : ByteArray) : (gt s).1 < 18446744073709551616 := by
  have ho := gt_out s
  by_cases h : (gt s).2.2 = 0
  · exact (ho.1 h).1
  · rw [(ho.2 h).1]; decide
theorem gi_out (s : ByteArray) : ((gi s).2.2 = 0 → 0 < (gi s).2.1 ∧ (gi s).2.1 ≤ s.size) ∧ ((gi s).2.2 ≠ 0 → (gi s).2.2 < 10) := by
  have h := gt_out s
  exact ⟨fun h2 => by have := h.1 h2; exact ⟨this.2.1, this.2.2.1⟩, fun h2 => (h.2 h2).2.2⟩
theorem gs_out' (s : ByteArray) : ((gs s).2.2 = 0 → 0 < (gs s).2.1 ∧ (gs s).2.1 ≤ s.size) ∧ ((gs s).2.2 ≠ 0 → (gs s).2.2 < 10) := by
  have h := gs_out s
  exact ⟨fun h2 => by have := h.1 h2; exact ⟨this.1, this.2.1⟩, fun h2 => (h.2 h2).2.2⟩
theorem ext_size (s : ByteArray) (a : Nat) : (s.extract a s.size).size = s.size - a := by rw [ByteArray.size_extract]; omega
theorem own_growU {w w' w0 : World} {e : TypeId} {n : Nat} {v : Value} {l : List Value} (hown : w.ownsRow w0.heap.size e 1 v n l) (hup : Up w0 w) (hg : w.grownBy w' v.ownBlock) : Up w0 w' :=
  hup.grown hg (fun k hk => (hown.lt k hk).1)
set_option maxRecDepth 1000000 in
set_option maxHeartbeats 4000000 in
theorem gpS_any (s : ByteArray) (w : World) (hs : s.size ≤ 100000) : Calls Try.prog 47 #[.string s, .func (.func 24) #[] #[]] w (RetLs w (ss (lst gs s).2.1) (lst gs s).2.2 (lst gs s).1) := by
  obtain ⟨n, hn⟩ : ∃ n, n = (gt s).1 := ⟨_, rfl⟩
  obtain ⟨k, hk⟩ : ∃ k, k = (gt s).2.1 := ⟨_, rfl⟩
  obtain ⟨x, hx⟩ : ∃ x, x = (gt s).2.2 := ⟨_, rfl⟩
  have ho := gt_out s
  have hL : lst gs s = if x ≠ 0 then (x, [], 0) else jn [] (gl gs s n k) := by unfold lst; rw [← hn, ← hk, ← hx]
  have hget : ∀ w : World, Calls Try.prog 14 #[.string s] w fun e w' => e = .returned (.tuple #[.int .u64 (n : Nat), .int .i64 (k : Nat), .int .i64 (x : Nat)]) ∧ w = w' := fun w => by rw [hn, hk, hx]; exact get_any s w (by omega)
  rw [← hn, ← hk, ← hx] at ho
  clear hn hk hx
  obtain ⟨L, HL⟩ : ∃ L, Hid (L = lst gs s) := ⟨_, rfl⟩
  rw [← HL.out]
  rw [← HL.out] at hL
  by_cases h0 : x = 0
  · subst h0
    obtain ⟨h1, h2, h3, h4⟩ := ho.1 rfl
    have HJ : Hid (jn [] (gl gs s n k) = L) := by show jn [] (gl gs s n k) = L; rw [hL, if_neg (fun h => h rfl)]
    clear ho hL
    go_enter Try.func47, Try.ntmps47
    go_wp2_with (go_at_call 14; refine (hget _).mono ?_; rintro e w' ⟨rfl, rfl⟩)
    go_loopw [7, 8, 10] (fun t7 t8 v wr => ∃ (c a m : Nat) (o : List ByteArray), t7 = .int .u64 c ∧ t8 = .int .i64 a ∧ wr.ownsRow w.heap.size 9 1 v m (ss o) ∧ Up w wr ∧ m ≤ a ∧ a ≤ s.size ∧ c < 18446744073709551616 ∧ Hid (jn o (gl gs s c a) = L)) (fun t7 _ _ _ => (intOf t7).toNat)
    case atStart => exact ⟨n, k, 0, [], rfl, rfl, World.ownsRow_nil _ _ _ _, Up.refl w, by omega, by omega, h1, HJ⟩
    case round =>
      clear HJ hget
      obtain ⟨c, a, m, o, rfl, rfl, hown, hup, hma, has, hc, HJ⟩ := hrel
      have hsz := hup.size
      by_cases hc0 : 0 < c
      · obtain ⟨c, rfl⟩ : ∃ m, c = m + 1 := ⟨c - 1, by omega⟩
        have hq := gs_out' (s.extract a s.size)
        rw [ext_size] at hq
        have he := gl_err gs s o c a
        have hg := gl_go gs s o c a
        have hcall := gstr_any (s.extract a s.size) wr (by rw [ext_size]; omega)
        unfold RetGs at hcall
        skip
        obtain ⟨y, hy⟩ : ∃ y, y = (gs (s.extract a s.size)).1 := ⟨_, rfl⟩
        obtain ⟨q, hq1⟩ : ∃ q, q = (gs (s.extract a s.size)).2.1 := ⟨_, rfl⟩
        obtain ⟨x, hx⟩ : ∃ x, x = (gs (s.extract a s.size)).2.2 := ⟨_, rfl⟩
        rw [← hq1, ← hx] at hq
        rw [← hx] at he
        rw [← hy, ← hq1, ← hx] at hg hcall
        clear hy hq1 hx
        by_cases hx0 : x = 0
        · subst hx0
          obtain ⟨hq1, hq2⟩ := hq.1 rfl
          have HN : Hid (jn (o ++ [y]) (gl gs s c (a + q)) = L) := (hg rfl).symm.trans HJ.out
          clear hq he hg HJ
          go_wp2_with (first | (go_at_call 24; refine hcall.mono ?_; rintro e w' ⟨rfl, rfl⟩) | (at_builtin; refine wp_appV rfl _ _ 30 9 rfl w.heap.size (.string ⟨#[]⟩) 16 Try.underlying30 Try.info9 rfl (by decide) _ m _ rfl (hown.alloc _) (some ⟨wr.heap.size, 0, none⟩) 1 1 (ss [y]) rfl rfl (ss_one _) (vals_one _ _ _) (by omega) (by simp; omega) ?_; intro v1 w1 hown1 hgrow1))
          go_roundw
          case rel => exact ⟨c, a + q, m + 1, o ++ [y], by go_num, by go_num, by rw [ss_append]; exact hown1, own_growU (hown.alloc _) (hup.alloc _) hgrow1, by omega, by omega, by omega, HN⟩
          case measure => simp [intOf] <;> omega
        · have HN : Hid (L = (x, [], 0)) := HJ.out.symm.trans (he hx0)
          have hx' : ((x : Int) != 0) = true := by rw [bne_iff_ne]; omega
          clear hq he hg HJ
          go_wp2_with (go_at_call 24; refine hcall.mono ?_; rintro e w' ⟨rfl, rfl⟩)
          go_ret3
          exact ⟨none, 0, 0, by rw [HN.out] <;> rfl, by rw [HN.out] <;> rfl, by omega, by omega, by rw [HN.out]; exact Or.inl rfl, NewB.none_ _, hup⟩
      · obtain rfl : c = 0 := by omega
        have HN : Hid (L = (0, o, a)) := HJ.out.symm.trans (gl_end _ _ _ _)
        clear HJ
        obtain ⟨A, cp, rfl, hcp, hv, hl, hnb⟩ := own_vals hown
        go_wp2
        go_ret3
        exact ⟨A, m, cp, by rw [HN.out] <;> rfl, by rw [HN.out]; exact hl, hcp, by omega, by rw [HN.out]; exact hv, hnb, hup⟩
  · have HN : Hid (L = (x, [], 0)) := by show L = _; rw [hL, if_pos h0]
    have hx : ((x : Int) != 0) = true := by rw [bne_iff_ne]; omega
    clear hL ho
    go_enter Try.func47, Try.ntmps47
    go_wp2_with (go_at_call 14; refine (hget _).mono ?_; rintro e w' ⟨rfl, rfl⟩)
    go_ret3
    exact ⟨none, 0, 0, by rw [HN.out] <;> rfl, by rw [HN.out] <;> rfl, by omega, by omega, by rw [HN.out]; exact Or.inl rfl, NewB.none_ _, Up.refl w⟩
set_option maxRecDepth 1000000 in
set_option maxHeartbeats 4000000 in
theorem gpI_any (s : ByteArray) (w : World) (hs : s.size ≤ 100000) : Calls Try.prog 50 #[.string s, .func (.func 51) #[] #[]] w (RetLs w (is (lst gi s).2.1) (lst gi s).2.2 (lst gi s).1) := by
  obtain ⟨n, hn⟩ : ∃ n, n = (gt s).1 := ⟨_, rfl⟩
  obtain ⟨k, hk⟩ : ∃ k, k = (gt s).2.1 := ⟨_, rfl⟩
  obtain ⟨x, hx⟩ : ∃ x, x = (gt s).2.2 := ⟨_, rfl⟩
  have ho := gt_out s
  have hL : lst gi s = if x ≠ 0 then (x, [], 0) else jn [] (gl gi s n k) := by unfold lst; rw [← hn, ← hk, ← hx]
  have hget : ∀ w : World, Calls Try.prog 14 #[.string s] w fun e w' => e = .returned (.tuple #[.int .u64 (n : Nat), .int .i64 (k : Nat), .int .i64 (x : Nat)]) ∧ w = w' := fun w => by rw [hn, hk, hx]; exact get_any s w (by omega)
  rw [← hn, ← hk, ← hx] at ho
  clear hn hk hx
  obtain ⟨L, HL⟩ : ∃ L, Hid (L = lst gi s) := ⟨_, rfl⟩
  rw [← HL.out]
  rw [← HL.out] at hL
  by_cases h0 : x = 0
  · subst h0
    obtain ⟨h1, h2, h3, h4⟩ := ho.1 rfl
    have HJ : Hid (jn [] (gl gi s n k) = L) := by show jn [] (gl gi s n k) = L; rw [hL, if_neg (fun h => h rfl)]
    clear ho hL
    go_enter Try.func50, Try.ntmps50
    go_wp2_with (go_at_call 14; refine (hget _).mono ?_; rintro e w' ⟨rfl, rfl⟩)
    go_loopw [7, 8, 10] (fun t7 t8 v wr => ∃ (c a m : Nat) (o : List Int), t7 = .int .u64 c ∧ t8 = .int .i64 a ∧ wr.ownsRow w.heap.size 3 1 v m (is o) ∧ Up w wr ∧ m ≤ a ∧ a ≤ s.size ∧ c < 18446744073709551616 ∧ Hid (jn o (gl gi s c a) = L)) (fun t7 _ _ _ => (intOf t7).toNat)
    case atStart => exact ⟨n, k, 0, [], rfl, rfl, World.ownsRow_nil _ _ _ _, Up.refl w, by omega, by omega, h1, HJ⟩
    case round =>
      clear HJ hget
      obtain ⟨c, a, m, o, rfl, rfl, hown, hup, hma, has, hc, HJ⟩ := hrel
      have hsz := hup.size
      by_cases hc0 : 0 < c
      · obtain ⟨c, rfl⟩ : ∃ m, c = m + 1 := ⟨c - 1, by omega⟩
        have hq := gi_out (s.extract a s.size)
        rw [ext_size] at hq
        have he := gl_err gi s o c a
        have hg := gl_go gi s o c a
        have hcall := gint_any (s.extract a s.size) wr (by rw [ext_size]; omega)
        unfold RetGi at hcall
        unfold gi at he hg hq; dsimp only at he hg hq
        obtain ⟨y, hy⟩ : ∃ y, y = uz (gt (s.extract a s.size)).1 := ⟨_, rfl⟩
        obtain ⟨q, hq1⟩ : ∃ q, q = (gt (s.extract a s.size)).2.1 := ⟨_, rfl⟩
        obtain ⟨x, hx⟩ : ∃ x, x = (gt (s.extract a s.size)).2.2 := ⟨_, rfl⟩
        rw [← hq1, ← hx] at hq
        rw [← hx] at he
        rw [← hy, ← hq1, ← hx] at hg hcall
        clear hy hq1 hx
        by_cases hx0 : x = 0
        · subst hx0
          obtain ⟨hq1, hq2⟩ := hq.1 rfl
          have HN : Hid (jn (o ++ [y]) (gl gi s c (a + q)) = L) := (hg rfl).symm.trans HJ.out
          clear hq he hg HJ
          go_wp2_with (first | (go_at_call 51; refine hcall.mono ?_; rintro e w' ⟨rfl, rfl⟩) | (at_builtin; refine wp_appV rfl _ _ 41 3 rfl w.heap.size (.int .i64 0) 8 Try.underlying41 Try.info3 rfl (by decide) _ m _ rfl (hown.alloc _) (some ⟨wr.heap.size, 0, none⟩) 1 1 (is [y]) rfl rfl (is_one _) (vals_one _ _ _) (by omega) (by simp; omega) ?_; intro v1 w1 hown1 hgrow1))
          go_roundw
          case rel => exact ⟨c, a + q, m + 1, o ++ [y], by go_num, by go_num, by rw [is_append]; exact hown1, own_growU (hown.alloc _) (hup.alloc _) hgrow1, by omega, by omega, by omega, HN⟩
          case measure => simp [intOf] <;> omega
        · have HN : Hid (L = (x, [], 0)) := HJ.out.symm.trans (he hx0)
          have hx' : ((x : Int) != 0) = true := by rw [bne_iff_ne]; omega
          clear hq he hg HJ
          go_wp2_with (go_at_call 51; refine hcall.mono ?_; rintro e w' ⟨rfl, rfl⟩)
          go_ret3
          exact ⟨none, 0, 0, by rw [HN.out] <;> rfl, by rw [HN.out] <;> rfl, by omega, by omega, by rw [HN.out]; exact Or.inl rfl, NewB.none_ _, hup⟩
      · obtain rfl : c = 0 := by omega
        have HN : Hid (L = (0, o, a)) := HJ.out.symm.trans (gl_end _ _ _ _)
        clear HJ
        obtain ⟨A, cp, rfl, hcp, hv, hl, hnb⟩ := own_vals hown
        go_wp2
        go_ret3
        exact ⟨A, m, cp, by rw [HN.out] <;> rfl, by rw [HN.out]; exact hl, hcp, by omega, by rw [HN.out]; exact hv, hnb, hup⟩
  · have HN : Hid (L = (x, [], 0)) := by show L = _; rw [hL, if_pos h0]
    have hx : ((x : Int) != 0) = true := by rw [bne_iff_ne]; omega
    clear hL ho
    go_enter Try.func50, Try.ntmps50
    go_wp2_with (go_at_call 14; refine (hget _).mono ?_; rintro e w' ⟨rfl, rfl⟩)
    go_ret3
    exact ⟨none, 0, 0, by rw [HN.out] <;> rfl, by rw [HN.out] <;> rfl, by omega, by omega, by rw [HN.out]; exact Or.inl rfl, NewB.none_ _, Up.refl w⟩
set_option maxHeartbeats 1000000 in
theorem glist_any (s : ByteArray) (w : World) (hs : s.size ≤ 100000) : Calls Try.prog 20 #[.string s] w (RetLs w (ss (lst gs s).2.1) (lst gs s).2.2 (lst gs s).1) := by
  go_enter Try.func20, Try.ntmps20
  go_wp2_with (go_at_call 47; refine (gpS_any s _ hs).mono ?_; rintro e w1 ⟨A, n, c, rfl, h1, h2, h3, h4, h5⟩)
  first | go_ret3 | go_ret
  exact ⟨A, n, c, rfl, h1, h2, h3, h4, h5⟩
set_option maxHeartbeats 1000000 in
theorem gints_any (s : ByteArray) (w : World) (hs : s.size ≤ 100000) : Calls Try.prog 30 #[.string s] w (RetLs w (is (lst gi s).2.1) (lst gi s).2.2 (lst gi s).1) := by
  go_enter Try.func30, Try.ntmps30
  go_wp2_with (go_at_call 50; refine (gpI_any s _ hs).mono ?_; rintro e w1 ⟨A, n, c, rfl, h1, h2, h3, h4, h5⟩)
  first | go_ret3 | go_ret
  exact ⟨A, n, c, rfl, h1, h2, h3, h4, h5⟩
end Go.Proofs.Ytcgoogdjgocjbaa
