/- Walks: what reads lists, the reference's. -/
import Derived.Test.YtcgoogdjgocjbaaG
namespace Go.Proofs.Ytcgoogdjgocjbaa
open Go.RowKit

set_option maxRecDepth 1000000 in
set_option maxHeartbeats 4000000 in
theorem rglist_any (s : ByteArray) (w : World) (hs : s.size ≤ 100000) : Calls Try.prog 27 #[.string s] w (RetLs w (ss (lst gs s).2.1) (lst gs s).2.2 (lst gs s).1) := by
  obtain ⟨n, hn⟩ : ∃ n, n = (gt s).1 := ⟨_, rfl⟩
  obtain ⟨k, hk⟩ : ∃ k, k = (gt s).2.1 := ⟨_, rfl⟩
  obtain ⟨x, hx⟩ : ∃ x, x = (gt s).2.2 := ⟨_, rfl⟩
  have ho := gt_out s
  have hL : lst gs s = if x ≠ 0 then (x, [], 0) else jn [] (gl gs s n k) := by unfold lst; rw [← hn, ← hk, ← hx]
  have hget : ∀ w : World, Calls Try.prog 16 #[.string s] w fun e w' => e = .returned (.tuple #[.int .u64 (n : Nat), .int .i64 (k : Nat), .int .i64 (x : Nat)]) ∧ w = w' := fun w => by rw [hn, hk, hx]; exact rget_any s w (by omega)
  rw [← hn, ← hk, ← hx] at ho
  clear hn hk hx
  obtain ⟨L, HL⟩ : ∃ L, Hid (L = lst gs s) := ⟨_, rfl⟩
  rw [← HL.out]
  rw [← HL.out] at hL
  by_cases h0 : x = 0
  · subst h0
    obtain ⟨h1, h2, h3, h4⟩ := ho.1 rfl
    have HJ : Hid (jn [] (gl gs s n k) = L) := by show jn [] (gl gs s n k) = L; rw [hL, if_neg (fun h => h rfl)]
    clear ho hL
    go_enter Try.func27, Try.ntmps27
    go_wp2_with (go_at_call 16; refine (hget _).mono ?_; rintro e w' ⟨rfl, rfl⟩)
    go_loopw [6, 8] (fun t8 v wr => ∃ (c a m cp : Nat) (A : Option Addr) (o : List ByteArray), v = .slice A m cp ∧ m + c = n ∧ t8 = .int .i64 a ∧ wr.ownsRow w.heap.size 9 1 v m (ss o) ∧ Up w wr ∧ m ≤ a ∧ a ≤ s.size ∧ Hid (jn o (gl gs s c a) = L)) (fun t8 _ _ => s.size - (intOf t8).toNat)
    case atStart => exact ⟨n, k, 0, 0, none, [], rfl, by omega, rfl, World.ownsRow_nil _ _ _ _, Up.refl w, by omega, by omega, HJ⟩
    case round =>
      clear HJ hget
      obtain ⟨c, a, m, cp, A, o, rfl, hmc, rfl, hown, hup, hma, has, HJ⟩ := hrel
      have hsz := hup.size
      by_cases hc0 : m < n
      · obtain ⟨c, rfl⟩ : ∃ m, c = m + 1 := ⟨c - 1, by omega⟩
        have hq := gs_out' (s.extract a s.size)
        rw [ext_size] at hq
        have he := gl_err gs s o c a
        have hg := gl_go gs s o c a
        have hcall := rgstr_any (s.extract a s.size) wr (by rw [ext_size]; omega)
        unfold RetGs at hcall
        skip
        obtain ⟨y, hyu⟩ : ∃ y, y = (gs (s.extract a s.size)).1 := ⟨_, rfl⟩
        obtain ⟨q, hq1⟩ : ∃ q, q = (gs (s.extract a s.size)).2.1 := ⟨_, rfl⟩
        obtain ⟨x, hx⟩ : ∃ x, x = (gs (s.extract a s.size)).2.2 := ⟨_, rfl⟩
        rw [← hq1, ← hx] at hq
        rw [← hx] at he
        rw [← hyu, ← hq1, ← hx] at hg
        rw [← hyu, ← hq1, ← hx] at hcall
        clear hyu hq1 hx
        by_cases hx0 : x = 0
        · subst hx0
          obtain ⟨hq1, hq2⟩ := hq.1 rfl
          have HN : Hid (jn (o ++ [y]) (gl gs s c (a + q)) = L) := (hg rfl).symm.trans HJ.out
          clear hq he hg HJ
          go_wp2_with (first | (go_at_call 26; refine hcall.mono ?_; rintro e w' ⟨rfl, rfl⟩) | (at_builtin; refine wp_appV rfl _ _ 30 9 rfl w.heap.size (.string ⟨#[]⟩) 16 Try.underlying30 Try.info9 rfl (by decide) _ m _ rfl (hown.alloc _) (some ⟨wr.heap.size, 0, none⟩) 1 1 (ss [y]) rfl rfl (ss_one _) (vals_one _ _ _) (by omega) (by simp; omega) ?_; intro v1 w1 hown1 hgrow1; obtain ⟨A1, cp1, rfl, _⟩ := own_vals hown1))
          go_roundw
          case rel => exact ⟨c, a + q, m + 1, cp1, A1, o ++ [y], rfl, by omega, by go_num, by rw [ss_append]; exact hown1, own_growU (hown.alloc _) (hup.alloc _) hgrow1, by omega, by omega, HN⟩
          case measure => simp [intOf] <;> omega
        · have HN : Hid (L = (x, [], 0)) := HJ.out.symm.trans (he hx0)
          have hx' : ((x : Int) != 0) = true := by rw [bne_iff_ne]; omega
          clear hq he hg HJ
          go_wp2_with (first | (go_at_call 26; refine hcall.mono ?_; rintro e w' ⟨rfl, rfl⟩))
          go_ret3
          exact ⟨none, 0, 0, by rw [HN.out] <;> rfl, by rw [HN.out] <;> rfl, by omega, by omega, by rw [HN.out]; exact Or.inl rfl, NewB.none_ _, hup⟩
      · obtain rfl : c = 0 := by omega
        have HN : Hid (L = (0, o, a)) := HJ.out.symm.trans (gl_end _ _ _ _)
        clear HJ
        obtain ⟨A', cp', he, hcp, hv, hl, hnb⟩ := own_vals hown
        cases he
        go_wp2
        go_ret3
        exact ⟨A, m, cp, by rw [HN.out] <;> rfl, by rw [HN.out]; exact hl, hcp, by omega, by rw [HN.out]; exact hv, hnb, hup⟩
  · have HN : Hid (L = (x, [], 0)) := by show L = _; rw [hL, if_pos h0]
    have hx : ((x : Int) != 0) = true := by rw [bne_iff_ne]; omega
    clear hL ho
    go_enter Try.func27, Try.ntmps27
    go_wp2_with (go_at_call 16; refine (hget _).mono ?_; rintro e w' ⟨rfl, rfl⟩)
    go_ret3
    exact ⟨none, 0, 0, by rw [HN.out] <;> rfl, by rw [HN.out] <;> rfl, by omega, by omega, by rw [HN.out]; exact Or.inl rfl, NewB.none_ _, Up.refl w⟩
set_option maxRecDepth 1000000 in
set_option maxHeartbeats 4000000 in
theorem rgints_any (s : ByteArray) (w : World) (hs : s.size ≤ 100000) : Calls Try.prog 33 #[.string s] w (RetLs w (is (lst gi s).2.1) (lst gi s).2.2 (lst gi s).1) := by
  obtain ⟨n, hn⟩ : ∃ n, n = (gt s).1 := ⟨_, rfl⟩
  obtain ⟨k, hk⟩ : ∃ k, k = (gt s).2.1 := ⟨_, rfl⟩
  obtain ⟨x, hx⟩ : ∃ x, x = (gt s).2.2 := ⟨_, rfl⟩
  have ho := gt_out s
  have hL : lst gi s = if x ≠ 0 then (x, [], 0) else jn [] (gl gi s n k) := by unfold lst; rw [← hn, ← hk, ← hx]
  have hget : ∀ w : World, Calls Try.prog 16 #[.string s] w fun e w' => e = .returned (.tuple #[.int .u64 (n : Nat), .int .i64 (k : Nat), .int .i64 (x : Nat)]) ∧ w = w' := fun w => by rw [hn, hk, hx]; exact rget_any s w (by omega)
  rw [← hn, ← hk, ← hx] at ho
  clear hn hk hx
  obtain ⟨L, HL⟩ : ∃ L, Hid (L = lst gi s) := ⟨_, rfl⟩
  rw [← HL.out]
  rw [← HL.out] at hL
  by_cases h0 : x = 0
  · subst h0
    obtain ⟨h1, h2, h3, h4⟩ := ho.1 rfl
    have HJ : Hid (jn [] (gl gi s n k) = L) := by show jn [] (gl gi s n k) = L; rw [hL, if_neg (fun h => h rfl)]
    clear ho hL
    go_enter Try.func33, Try.ntmps33
    go_wp2_with (go_at_call 16; refine (hget _).mono ?_; rintro e w' ⟨rfl, rfl⟩)
    go_loopw [6, 8] (fun t8 v wr => ∃ (c a m cp : Nat) (A : Option Addr) (o : List Int), v = .slice A m cp ∧ m + c = n ∧ t8 = .int .i64 a ∧ wr.ownsRow w.heap.size 3 1 v m (is o) ∧ Up w wr ∧ m ≤ a ∧ a ≤ s.size ∧ Hid (jn o (gl gi s c a) = L)) (fun t8 _ _ => s.size - (intOf t8).toNat)
    case atStart => exact ⟨n, k, 0, 0, none, [], rfl, by omega, rfl, World.ownsRow_nil _ _ _ _, Up.refl w, by omega, by omega, HJ⟩
    case round =>
      clear HJ hget
      obtain ⟨c, a, m, cp, A, o, rfl, hmc, rfl, hown, hup, hma, has, HJ⟩ := hrel
      have hsz := hup.size
      by_cases hc0 : m < n
      · obtain ⟨c, rfl⟩ : ∃ m, c = m + 1 := ⟨c - 1, by omega⟩
        have hq := gi_out (s.extract a s.size)
        rw [ext_size] at hq
        have he := gl_err gi s o c a
        have hg := gl_go gi s o c a
        have hcall := rget_any (s.extract a s.size) wr (by rw [ext_size]; omega)
        unfold RetGet at hcall
        unfold gi at he hg hq; dsimp only at he hg hq
        obtain ⟨u, hu0⟩ : ∃ u, u = (gt (s.extract a s.size)).1 := ⟨_, rfl⟩
        have hu : u < 18446744073709551616 := by rw [hu0]; exact gt_num _
        rw [← hu0] at hg hcall
        obtain ⟨q, hq1⟩ : ∃ q, q = (gt (s.extract a s.size)).2.1 := ⟨_, rfl⟩
        obtain ⟨x, hx⟩ : ∃ x, x = (gt (s.extract a s.size)).2.2 := ⟨_, rfl⟩
        rw [← hq1, ← hx] at hq
        rw [← hx] at he
        rw [← hq1, ← hx] at hg
        rw [← hq1, ← hx] at hcall
        clear hu0 hq1 hx
        by_cases hx0 : x = 0
        · subst hx0
          obtain ⟨hq1, hq2⟩ := hq.1 rfl
          have HN : Hid (jn (o ++ [uz u]) (gl gi s c (a + q)) = L) := (hg rfl).symm.trans HJ.out
          clear hq he hg HJ
          go_wp2_with (first | (go_at_call 16; refine hcall.mono ?_; rintro e w' ⟨rfl, rfl⟩) | (go_at_call 53; refine (integer_any u _ hu).mono ?_; rintro e w' ⟨rfl, rfl⟩) | (at_builtin; refine wp_appV rfl _ _ 41 3 rfl w.heap.size (.int .i64 0) 8 Try.underlying41 Try.info3 rfl (by decide) _ m _ rfl (hown.alloc _) (some ⟨wr.heap.size, 0, none⟩) 1 1 (is [uz u]) rfl rfl (is_one _) (vals_one _ _ _) (by omega) (by simp; omega) ?_; intro v1 w1 hown1 hgrow1; obtain ⟨A1, cp1, rfl, _⟩ := own_vals hown1))
          go_roundw
          case rel => exact ⟨c, a + q, m + 1, cp1, A1, o ++ [uz u], rfl, by omega, by go_num, by rw [is_append]; exact hown1, own_growU (hown.alloc _) (hup.alloc _) hgrow1, by omega, by omega, HN⟩
          case measure => simp [intOf] <;> omega
        · have HN : Hid (L = (x, [], 0)) := HJ.out.symm.trans (he hx0)
          have hx' : ((x : Int) != 0) = true := by rw [bne_iff_ne]; omega
          clear hq he hg HJ
          go_wp2_with (first | (go_at_call 16; refine hcall.mono ?_; rintro e w' ⟨rfl, rfl⟩) | (go_at_call 53; refine (integer_any u _ hu).mono ?_; rintro e w' ⟨rfl, rfl⟩))
          go_ret3
          exact ⟨none, 0, 0, by rw [HN.out] <;> rfl, by rw [HN.out] <;> rfl, by omega, by omega, by rw [HN.out]; exact Or.inl rfl, NewB.none_ _, hup⟩
      · obtain rfl : c = 0 := by omega
        have HN : Hid (L = (0, o, a)) := HJ.out.symm.trans (gl_end _ _ _ _)
        clear HJ
        obtain ⟨A', cp', he, hcp, hv, hl, hnb⟩ := own_vals hown
        cases he
        go_wp2
        go_ret3
        exact ⟨A, m, cp, by rw [HN.out] <;> rfl, by rw [HN.out]; exact hl, hcp, by omega, by rw [HN.out]; exact hv, hnb, hup⟩
  · have HN : Hid (L = (x, [], 0)) := by show L = _; rw [hL, if_pos h0]
    have hx : ((x : Int) != 0) = true := by rw [bne_iff_ne]; omega
    clear hL ho
    go_enter Try.func33, Try.ntmps33
    go_wp2_with (go_at_call 16; refine (hget _).mono ?_; rintro e w' ⟨rfl, rfl⟩)
    go_ret3
    exact ⟨none, 0, 0, by rw [HN.out] <;> rfl, by rw [HN.out] <;> rfl, by omega, by omega, by rw [HN.out]; exact Or.inl rfl, NewB.none_ _, Up.refl w⟩
end Go.Proofs.Ytcgoogdjgocjbaa
