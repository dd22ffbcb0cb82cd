/- The reference's Make. -/
import Derived.Test.YtijcijdgpeolhaaDoorB3
import Derived.Test.YtijcijdgpeolhaaDoorBase4
namespace Go.Proofs.YtijcijdgpeolhaaDoor
open Go.RowKit

set_option maxHeartbeats 2000000 in
theorem make_any (s : Bool) (A : Option Addr) (c : Nat) (l : List Nat) (w : World) (h : Lim w A l) (hd : Dig l) (n : Nat) (Hn : Hid (n = l.length)) (hn : n ≤ 100000) :
    Calls Tryd.prog 16 #[.bool s, .slice A n c] w (RetIntE w (sgn s (val l))) := by
  have hown0 : Own ((w.alloc (.cells #[.bool false, .slice none 0 0] 25)).alloc (.cells #[] 41)) (w.heap.size + 1) (.slice (some ⟨w.heap.size + 1, 0, none⟩) 0 0) 0 [] := by
    have := Own.lit (w.alloc (.cells #[.bool false, .slice none 0 0] 25)) (base := w.heap.size + 1) (n := 0) [] #[] (by simp) (by omega) rfl rfl
    simpa using this
  have hlim0 := h.up (((Up.refl w).alloc (.cells #[.bool false, .slice none 0 0] 25)).alloc (.cells #[] 41))
  go_enter Tryd.func16, Tryd.ntmps16
  go_wp2_with (at_builtin; refine wp_app rfl _ _ rfl (w.heap.size + 1) (.slice (some ⟨w.heap.size + 1, 0, none⟩) 0 0) 0 [] rfl hown0 A n c l rfl Hn.out.symm hlim0 (by omega) (by simp) ?_; intro v1 w1 hown1 hg1)
  obtain ⟨A1, c1, rfl, hc1, hlim1, hnew1⟩ := hown1.lim
  have hlen1 := hown1.len
  simp only [List.nil_append, Nat.zero_add] at hlim1 hc1 hlen1 ⊢
  have hb1 : Bk w1 w.heap.size 25 #[.bool false, .slice none 0 0] := ((Bk.new w _ _).alloc _).grown hg1 (fun e => by have := Option.some.inj e; simp at this)
  have hup1 : Up w w1 := (((Up.refl w).alloc _).alloc _).grown hg1 (fun k hk => by cases hk; simp)
  clear hown1 hg1 hown0 hlim0
  refine (rtrim_lim A1 c1 l _ hlim1 n _ hlen1 hd rfl (by omega) hc1).mono ?_
  rintro e w2 ⟨⟨n2, rfl, HN2, hlim2, hc2⟩, rfl⟩
  have hn2 : n2 ≤ 100000 := by
    rw [HN2.out]
    have := keep_len hd
    have := keep_le l l.length
    omega
  have hcA := hb1.cell (i := 0) rfl
  have hcB := hb1.cell (i := 1) rfl
  have hfA := hb1.frozen 0
  have hfB := hb1.frozen 1
  have hdg := digs_le _ (dig_lim (val l)).w32
  rw [← HN2.out] at hdg
  by_cases hbig : (val l) < top300
  · have hd3 : Hid (digs (lim (val l)) ≤ 300) := (digs_lim (val l)).2 hbig
    have hB := hide (bnd_ok (z := sgn s (val l)) (by rw [sgn_abs]; exact hbig))
    obtain ⟨d, hdd⟩ : ∃ d, d = digs (lim (val l)) := ⟨_, rfl⟩
    have hd4 : d ≤ 300 := by rw [hdd]; exact hd3.out
    have HD := hide hdd
    clear hdd hd3 hbig hdg
    by_cases hz : n2 = 0
    · have hv0 : Hid (val l = 0) := by have := HN2.out; show val l = 0; rw [← lim_len_zero]; omega
      have hzb : ((n2 : Int) == 0) = true := by rw [hz]; rfl
      have hq := hb1.two (.bool false) (.slice none 0 0)
      clear hz
      go_wp2_with (go_at_call 40; refine (rdigits_any A1 c1 _ _ hlim2 (dig_lim _).w32 n2 HN2 (by omega)).mono ?_; rintro e w' ⟨rfl, rfl⟩; rw [← HD.out])
      refine bodyPost_ret (v := .tuple #[.agg #[.bool false, .slice none 0 0], .int .i64 0]) (by simp [results, Tryd.results16, go_sem, hq.1, hq.2]) rfl ⟨_, by rw [hB.out.2], ?_, hup1.two (Nat.le_refl _) _ _⟩
      rw [hB.out.1, hv0.out, show sgn s 0 = 0 by unfold sgn; split <;> rfl]
      exact IsInt.zero _ _
    · have hv0 : Hid (val l ≠ 0) := by have := HN2.out; show val l ≠ 0; intro e; rw [e, lim_zero] at this; exact hz (by simpa using this)
      have hzb : ((n2 : Int) == 0) = false := by rw [beq_eq_false_iff_ne]; omega
      have hq := hb1.two (.bool s) (.slice A1 n2 c1)
      clear hz
      go_wp2_with (go_at_call 40; refine (rdigits_any A1 c1 _ _ hlim2 (dig_lim _).w32 n2 HN2 (by omega)).mono ?_; rintro e w' ⟨rfl, rfl⟩; rw [← HD.out])
      refine bodyPost_ret (v := .tuple #[.agg #[.bool s, .slice A1 n2 c1], .int .i64 0]) (by simp [results, Tryd.results16, go_sem, hq.1, hq.2]) rfl ⟨_, by rw [hB.out.2], ?_, hup1.two (Nat.le_refl _) _ _⟩
      rw [hB.out.1]
      exact ⟨s, A1, n2, c1, rfl, (sgn_neg hv0.out).symm, by rw [sgn_abs]; exact HN2, by rw [sgn_abs]; exact hlim2.two hnew1 _ _, hc2, hnew1.mono (by omega)⟩
  · have hd3 : Hid (¬ digs (lim (val l)) ≤ 300) := fun h => hbig ((digs_lim (val l)).1 h)
    have hB := hide (bnd_no (z := sgn s (val l)) (by rw [sgn_abs]; exact hbig))
    obtain ⟨d, hdd⟩ : ∃ d, d = digs (lim (val l)) := ⟨_, rfl⟩
    have hd4 : 300 < d := by rw [hdd]; have := hd3.out; omega
    have HD := hide hdd
    rw [← hdd] at hdg
    have hq := hb1.two (.bool false) (.slice none 0 0)
    clear hdd hd3 hbig
    go_wp2_with (go_at_call 40; refine (rdigits_any A1 c1 _ _ hlim2 (dig_lim _).w32 n2 HN2 (by omega)).mono ?_; rintro e w' ⟨rfl, rfl⟩; rw [← HD.out])
    refine bodyPost_ret (v := .tuple #[.agg #[.bool false, .slice none 0 0], .int .i64 3]) (by simp [results, Tryd.results16, go_sem, hq.1, hq.2]) rfl ⟨_, by rw [hB.out.2], ?_, hup1.two (Nat.le_refl _) _ _⟩
    rw [hB.out.1]
    exact IsInt.zero _ _
end Go.Proofs.YtijcijdgpeolhaaDoor
