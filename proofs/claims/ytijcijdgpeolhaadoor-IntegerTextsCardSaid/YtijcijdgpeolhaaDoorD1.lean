/- The program's split and Of. -/
import Derived.Test.YtijcijdgpeolhaaDoorC6
import Derived.Test.YtijcijdgpeolhaaDoorA3
import Derived.Test.YtijcijdgpeolhaaDoorBase5
namespace Go.Proofs.YtijcijdgpeolhaaDoor
open Go.RowKit

set_option maxHeartbeats 2000000 in
theorem split_any (x : Nat) (w : World) (hx : x < 18446744073709551616) : Calls Tryd.prog 32 #[.int .u64 x] w (RetLim w x) := by
  have hlen : Hid ((lim x).length ≤ 3) := by
    show _ ≤ _
    rw [lim_len_le]
    have h2 : bas 3 = 1000000000000000000000000000 := rfl
    omega
  have hx2 : x ≤ 18446744073709551615 := by omega
  clear hx
  go_enter Tryd.func32, Tryd.ntmps32
  go_wp2
  go_loopw [0, 3] (fun mv v wr => ∃ (m k : Nat) (o : List Nat), mv = .int .u64 m ∧ m ≤ 18446744073709551615 ∧ Own wr w.heap.size v k o ∧ o ++ lim m = lim x ∧ Up w wr) (fun mv _ _ => (intOf mv).toNat)
  case atStart => exact ⟨x, 0, [], rfl, hx2, Own.nil _ _, rfl, Up.refl _⟩
  case round =>
    obtain ⟨m, k, o, rfl, hm, hown, hcat, hup⟩ := hrel
    have HC := hide hcat
    clear hcat
    have hk3 : k ≤ 3 := by
      have h1 := hown.len
      have h2 := congrArg List.length HC.out
      rw [List.length_append] at h2
      have h3 := hlen.out
      omega
    have hsz := hup.size
    by_cases hgo : 0 < m
    · have HM := hide (lim_pos (n := m) (by omega))
      go_wp2_with (at_builtin; refine wp_app rfl _ _ rfl w.heap.size _ k o rfl (hown.up ((Up.refl wr).alloc _)) (some ⟨wr.heap.size, 0, none⟩) 1 1 [m % 1000000000] rfl rfl (lim_one _ _ _ (by omega)) (by omega) (by simp; omega) ?_; intro v1 w1 hown1 hg1)
      go_roundw
      case rel => exact ⟨m / 1000000000, k + 1, o ++ [m % 1000000000], by go_num, by omega, hown1, by rw [← HC.out, HM.out]; simp, (hup.alloc _).grown hg1 (fun j hj => (hown.lt j hj).1)⟩
      case measure => simp [intOf]; omega
    · obtain rfl : m = 0 := by omega
      have HX : Hid (o = lim x) := by show o = lim x; rw [← HC.out, lim_zero, List.append_nil]
      have hlen2 := hide hown.len
      obtain ⟨A3, c3, rfl, hc3, hl3, hn3⟩ := hown.lim
      clear hown
      go_wp2
      go_ret
      exact ⟨A3, k, c3, rfl, by rw [← HX.out, hlen2.out]; exact rfl, by rw [← HX.out]; exact hl3, hc3, hn3, hup⟩

theorem isInt_signed {B : Nat} {w : World} {s : Bool} {A : Option Addr} {c n k : Nat} (hl : Lim w A (lim k)) (Hn : Hid (n = (lim k).length)) (hc : n ≤ c) (hB : NewB B A) :
    IsInt B w (.agg #[.bool (s && decide (0 < n)), .slice A n c]) (sgn s k) := by
  refine ⟨_, A, n, c, rfl, ?_, by rw [sgn_abs]; exact Hn, by rw [sgn_abs]; exact hl, hc, hB⟩
  show _ = _
  have h1 := Hn.out
  by_cases h0 : k = 0
  · subst h0
    rw [lim_zero] at h1
    simp [h1, sgn]
  · have : 0 < n := by rw [h1]; exact Nat.pos_of_ne_zero fun e => h0 (lim_len_zero.1 e)
    rw [sgn_neg h0]; simp [this]
theorem signedI (B : Nat) (s : Bool) (A : Option Addr) (c n k : Nat) (w : World) (hl : Lim w A (lim k)) (Hn : Hid (n = (lim k).length)) (hn : n ≤ 1000000) (hc : n ≤ c) (hB : NewB B A) :
    Calls Tryd.prog 29 #[.bool s, .slice A n c] w fun e w' => (∃ v, e = .returned v ∧ IsInt B w' v (sgn s k)) ∧ Up w w' := by
  refine (signed_any s A c n w hn).mono ?_
  rintro e w' ⟨rfl, hup⟩
  exact ⟨⟨_, rfl, isInt_signed (hl.up hup) Hn hc hB⟩, hup⟩

set_option maxHeartbeats 2000000 in
theorem of_any (z : Int) (k : Nat) (s : Bool) (w : World) (Hz : Hid (z = sgn s k ∧ (k = 0 → s = false))) (hk : k ≤ 9223372036854775808) (hk2 : s = false → k ≤ 9223372036854775807) :
    Calls Tryd.prog 17 #[.int .i64 z] w (RetInt w z) := by
  obtain ⟨w0, hw0⟩ : ∃ w0, w0 = (w.alloc (.cells #[.bool false, .slice none 0 0] 25)) := ⟨_, rfl⟩
  have hb1 : Bk w0 (w.heap.size) 25 #[.bool false, .slice none 0 0] := by
    have := Bk.new w 25 #[.bool false, .slice none 0 0]
    rw [hw0]; simpa using this
  have hup0 : Up w w0 := by rw [hw0]; exact (Up.refl w).alloc _
  have hsz0 : w.heap.size + 1 ≤ w0.heap.size := by rw [hw0]; simp
  have Hw0 := hide hw0
  clear hw0
  have e1a := hb1.cell (i := 0) rfl
  have e1b := hb1.cell (i := 1) rfl
  have Hsz : Hid (w.heap.size + 1 ≤ w0.heap.size) := hsz0
  cases s
  · obtain rfl : z = (k : Int) := by rw [Hz.out.1]; rfl
    have hk3 := hk2 rfl
    clear hk2
    go_enter Tryd.func17, Tryd.ntmps17
    go_wp2_with fail
    rw [← Hw0.out]
    refine (split_any k _ (by omega)).mono ?_
    rintro e w1 ⟨A1, n1, c1, rfl, Hn1, hl1, hc1, hnew1, hup1⟩
    have hn1 : n1 ≤ 3 := by
      rw [Hn1.out, lim_len_le]
      have h2 : bas 3 = 1000000000000000000000000000 := rfl
      omega
    go_wp2_with fail
    refine (signedI (w.heap.size + 1) false A1 c1 n1 k _ hl1 Hn1 (by omega) hc1 (hnew1.mono (by have := Hsz.out; omega))).mono ?_
    rintro e w2 ⟨⟨v2, rfl, hv2⟩, hup2⟩
    rw [← Hz.out.1] at hv2
    obtain ⟨s2, A2, n2, c2, rfl, Hs2, Hn2, hl2, hc2, hnew2⟩ := hv2
    have hb2 := (hb1.up hup1).up hup2
    have f1 := hb2.cell (i := 0) rfl
    have f2 := hb2.cell (i := 1) rfl
    have f3 := hb2.frozen 0
    have f4 := hb2.frozen 1
    have q := hb2.two (.bool s2) (.slice A2 n2 c2)
    go_wp2
    refine bodyPost_ret (v := .agg #[.bool s2, .slice A2 n2 c2]) (by simp [results, Tryd.results17, go_sem, q.1, q.2]) rfl ⟨_, rfl, ⟨s2, A2, n2, c2, rfl, Hs2, Hn2, hl2.two hnew2 _ _, hc2, hnew2.mono (by omega)⟩, ((hup0.trans hup1).trans hup2).two (Nat.le_refl _) _ _⟩
  · obtain rfl : z = -(k : Int) := by rw [Hz.out.1]; rfl
    have hk0 : 0 < k := Nat.pos_of_ne_zero fun h => by have := Hz.out.2 h; cases this
    have hwn := wneg k hk0 hk
    clear hk2
    go_enter Tryd.func17, Tryd.ntmps17
    go_wp2_with fail
    rw [← Hw0.out]
    refine (split_any k _ (by omega)).mono ?_
    rintro e w1 ⟨A1, n1, c1, rfl, Hn1, hl1, hc1, hnew1, hup1⟩
    have hn1 : n1 ≤ 3 := by
      rw [Hn1.out, lim_len_le]
      have h2 : bas 3 = 1000000000000000000000000000 := rfl
      omega
    go_wp2_with fail
    refine (signedI (w.heap.size + 1) true A1 c1 n1 k _ hl1 Hn1 (by omega) hc1 (hnew1.mono (by have := Hsz.out; omega))).mono ?_
    rintro e w2 ⟨⟨v2, rfl, hv2⟩, hup2⟩
    rw [← Hz.out.1] at hv2
    obtain ⟨s2, A2, n2, c2, rfl, Hs2, Hn2, hl2, hc2, hnew2⟩ := hv2
    have hb2 := (hb1.up hup1).up hup2
    have f1 := hb2.cell (i := 0) rfl
    have f2 := hb2.cell (i := 1) rfl
    have f3 := hb2.frozen 0
    have f4 := hb2.frozen 1
    have q := hb2.two (.bool s2) (.slice A2 n2 c2)
    go_wp2
    refine bodyPost_ret (v := .agg #[.bool s2, .slice A2 n2 c2]) (by simp [results, Tryd.results17, go_sem, q.1, q.2]) rfl ⟨_, rfl, ⟨s2, A2, n2, c2, rfl, Hs2, Hn2, hl2.two hnew2 _ _, hc2, hnew2.mono (by omega)⟩, ((hup0.trans hup1).trans hup2).two (Nat.le_refl _) _ _⟩

end Go.Proofs.YtijcijdgpeolhaaDoor
