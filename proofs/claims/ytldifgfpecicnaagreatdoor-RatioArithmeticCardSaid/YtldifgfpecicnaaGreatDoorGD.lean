import Derived.Test.YtldifgfpecicnaaGreatDoorGC
import Derived.Test.YtldifgfpecicnaaGreatDoorGB
import Derived.Test.YtldifgfpecicnaaGreatDoorGA
import Derived.Deep.RegionHeld3
/- The program's split and Of. -/
namespace Go.Proofs.YtldifgfpecicnaaGreatDoor
open Go.RowKit

set_option maxRecDepth 100000 in
set_option maxHeartbeats 2000000 in
theorem split_any (x : Nat) (w : World) (hx : x < 18446744073709551616) : Calls Tryz.prog 87 #[.int .u64 x] w (RetLim w x) := by
  have hlen : Hid ((lim x).length ≤ 3) := by
    show _ ≤ _
    rw [lim_len_le]
    have h2 : bas 3 = 1000000000000000000000000000 := rfl
    omega
  have hx2 : x ≤ 18446744073709551615 := by omega
  clear hx
  go_enter Tryz.func87, Tryz.ntmps87
  go_wp2
  go_loopw [0, 3] (fun mv v wr => ∃ (m k : Nat) (o : List Nat), mv = .int .u64 m ∧ m ≤ 18446744073709551615 ∧ Own wr w.heap.size v k o ∧ o ++ lim m = lim x ∧ Up w wr) (fun mv _ _ => (intOf mv).toNat)
  case atStart => exact ⟨x, 0, [], rfl, hx2, Own.nil _ _, rfl, Up.refl _⟩
  case round =>
    obtain ⟨m, k, o, rfl, hm, hown, hcat, hup⟩ := hrel
    have HC := hide hcat
    clear hcat
    have hk3 : k ≤ 3 := by
      have h1 := hown.len
      have h2 := congrArg List.length HC.out
      rw [List.length_append] at h2
      have h3 := hlen.out
      omega
    have hsz := hup.size
    by_cases hgo : 0 < m
    · have HM := hide (lim_pos (n := m) (by omega))
      go_wp2_with (at_builtin; refine wp_app rfl _ _ rfl w.heap.size _ k o rfl (hown.up ((Up.refl wr).alloc _)) (some ⟨wr.heap.size, 0, none⟩) 1 1 [m % 1000000000] rfl rfl (lim_one _ _ _ (by omega)) (by omega) (by simp; omega) ?_; intro v1 w1 hown1 hg1)
      go_roundw
      case rel => exact ⟨m / 1000000000, k + 1, o ++ [m % 1000000000], by go_num, by omega, hown1, by rw [← HC.out, HM.out]; simp, (hup.alloc _).grown hg1 (fun j hj => (hown.lt j hj).1)⟩
      case measure => simp [intOf]; omega
    · obtain rfl : m = 0 := by omega
      have HX : Hid (o = lim x) := by show o = lim x; rw [← HC.out, lim_zero, List.append_nil]
      have hlen2 := hide hown.len
      obtain ⟨A3, c3, rfl, hc3, hl3, hn3⟩ := hown.lim
      clear hown
      go_wp2
      go_ret
      exact ⟨A3, k, c3, rfl, by rw [← HX.out, hlen2.out]; exact rfl, by rw [← HX.out]; exact hl3, hc3, hn3, hup⟩

theorem isInt_signed {B : Nat} {w : World} {s : Bool} {A : Option Addr} {c n k : Nat} (hl : Lim w A (lim k)) (Hn : Hid (n = (lim k).length)) (hc : n ≤ c) (hB : NewB B A) :
    IsInt B w (.agg #[.bool (s && decide (0 < n)), .slice A n c]) (sgn s k) := by
  refine ⟨_, A, n, c, rfl, ?_, by rw [sgn_abs]; exact Hn, by rw [sgn_abs]; exact hl, hc, hB⟩
  show _ = _
  have h1 := Hn.out
  by_cases h0 : k = 0
  · subst h0
    rw [lim_zero] at h1
    simp [h1, sgn]
  · have : 0 < n := by rw [h1]; exact Nat.pos_of_ne_zero fun e => h0 (lim_len_zero.1 e)
    rw [sgn_neg h0]; simp [this]
theorem signedI (B : Nat) (s : Bool) (A : Option Addr) (c n k : Nat) (w : World) (hl : Lim w A (lim k)) (Hn : Hid (n = (lim k).length)) (hn : n ≤ 1000000) (hc : n ≤ c) (hB : NewB B A) :
    Calls Tryz.prog 86 #[.bool s, .slice A n c] w fun e w' => (∃ v, e = .returned v ∧ IsInt B w' v (sgn s k)) ∧ Up w w' := by
  refine (signed_any s A c n w hn).mono ?_
  rintro e w' ⟨rfl, hup⟩
  exact ⟨⟨_, rfl, isInt_signed (hl.up hup) Hn hc hB⟩, hup⟩

set_option maxRecDepth 100000 in
set_option maxHeartbeats 2000000 in
theorem of_any (z : Int) (k : Nat) (s : Bool) (w : World) (Hz : Hid (z = sgn s k ∧ (k = 0 → s = false))) (hk : k ≤ 9223372036854775808) (hk2 : s = false → k ≤ 9223372036854775807) :
    Calls Tryz.prog 51 #[.int .i64 z] w (RetInt w z) := by
  obtain ⟨w0, hw0⟩ : ∃ w0, w0 = (w.alloc (.cells #[.bool false, .slice none 0 0] 24)) := ⟨_, rfl⟩
  have hb1 : Bk w0 (w.heap.size) 24 #[.bool false, .slice none 0 0] := by
    have := Bk.new w 24 #[.bool false, .slice none 0 0]
    rw [hw0]; simpa using this
  have hup0 : Up w w0 := by rw [hw0]; exact (Up.refl w).alloc _
  have hsz0 : w.heap.size + 1 ≤ w0.heap.size := by rw [hw0]; simp
  have Hw0 := hide hw0
  clear hw0
  have e1a := hb1.cell (i := 0) rfl
  have e1b := hb1.cell (i := 1) rfl
  have Hsz : Hid (w.heap.size + 1 ≤ w0.heap.size) := hsz0
  cases s
  · obtain rfl : z = (k : Int) := by rw [Hz.out.1]; rfl
    have hk3 := hk2 rfl
    clear hk2
    go_enter Tryz.func51, Tryz.ntmps51
    go_wp2_with fail
    rw [← Hw0.out]
    refine (split_any k _ (by omega)).mono ?_
    rintro e w1 ⟨A1, n1, c1, rfl, Hn1, hl1, hc1, hnew1, hup1⟩
    have hn1 : n1 ≤ 3 := by
      rw [Hn1.out, lim_len_le]
      have h2 : bas 3 = 1000000000000000000000000000 := rfl
      omega
    go_wp2_with fail
    refine (signedI (w.heap.size + 1) false A1 c1 n1 k _ hl1 Hn1 (by omega) hc1 (hnew1.mono (by have := Hsz.out; omega))).mono ?_
    rintro e w2 ⟨⟨v2, rfl, hv2⟩, hup2⟩
    rw [← Hz.out.1] at hv2
    obtain ⟨s2, A2, n2, c2, rfl, Hs2, Hn2, hl2, hc2, hnew2⟩ := hv2
    have hb2 := (hb1.up hup1).up hup2
    have f1 := hb2.cell (i := 0) rfl
    have f2 := hb2.cell (i := 1) rfl
    have f3 := hb2.frozen 0
    have f4 := hb2.frozen 1
    have q := hb2.two (.bool s2) (.slice A2 n2 c2)
    go_wp2
    refine bodyPost_ret (v := .agg #[.bool s2, .slice A2 n2 c2]) (by simp [results, Tryz.results51, go_sem, q.1, q.2]) rfl ⟨_, rfl, ⟨s2, A2, n2, c2, rfl, Hs2, Hn2, hl2.two hnew2 _ _, hc2, hnew2.mono (by omega)⟩, ((hup0.trans hup1).trans hup2).two (Nat.le_refl _) _ _⟩
  · obtain rfl : z = -(k : Int) := by rw [Hz.out.1]; rfl
    have hk0 : 0 < k := Nat.pos_of_ne_zero fun h => by have := Hz.out.2 h; cases this
    have hwn := wneg k hk0 hk
    clear hk2
    go_enter Tryz.func51, Tryz.ntmps51
    go_wp2_with fail
    rw [← Hw0.out]
    refine (split_any k _ (by omega)).mono ?_
    rintro e w1 ⟨A1, n1, c1, rfl, Hn1, hl1, hc1, hnew1, hup1⟩
    have hn1 : n1 ≤ 3 := by
      rw [Hn1.out, lim_len_le]
      have h2 : bas 3 = 1000000000000000000000000000 := rfl
      omega
    go_wp2_with fail
    refine (signedI (w.heap.size + 1) true A1 c1 n1 k _ hl1 Hn1 (by omega) hc1 (hnew1.mono (by have := Hsz.out; omega))).mono ?_
    rintro e w2 ⟨⟨v2, rfl, hv2⟩, hup2⟩
    rw [← Hz.out.1] at hv2
    obtain ⟨s2, A2, n2, c2, rfl, Hs2, Hn2, hl2, hc2, hnew2⟩ := hv2
    have hb2 := (hb1.up hup1).up hup2
    have f1 := hb2.cell (i := 0) rfl
    have f2 := hb2.cell (i := 1) rfl
    have f3 := hb2.frozen 0
    have f4 := hb2.frozen 1
    have q := hb2.two (.bool s2) (.slice A2 n2 c2)
    go_wp2
    refine bodyPost_ret (v := .agg #[.bool s2, .slice A2 n2 c2]) (by simp [results, Tryz.results51, go_sem, q.1, q.2]) rfl ⟨_, rfl, ⟨s2, A2, n2, c2, rfl, Hs2, Hn2, hl2.two hnew2 _ _, hc2, hnew2.mono (by omega)⟩, ((hup0.trans hup1).trans hup2).two (Nat.le_refl _) _ _⟩

set_option maxRecDepth 100000 in
set_option maxHeartbeats 2000000 in
theorem bounded_any (B : Nat) (s : Bool) (A : Option Addr) (c n k : Nat) (w : World) (hl : Lim w A (lim k)) (Hn : Hid (n = (lim k).length)) (hn : n ≤ 100000) (hc : n ≤ c) (hNB : NewB B A) :
    Calls Tryz.prog 105 #[.bool s, .slice A n c] w fun e w' => (∃ v, e = .returned (.tuple #[v, .int .i64 (bndE (sgn s k))]) ∧ IsInt B w' v (bnd (sgn s k))) ∧ Up w w' := by
  obtain ⟨w0, hw0⟩ : ∃ w0, w0 = (w.alloc (.cells #[.bool false, .slice none 0 0] 24)) := ⟨_, rfl⟩
  have hb1 : Bk w0 (w.heap.size) 24 #[.bool false, .slice none 0 0] := by
    have := Bk.new w 24 #[.bool false, .slice none 0 0]
    rw [hw0]; simpa using this
  have hup0 : Up w w0 := by rw [hw0]; exact (Up.refl w).alloc _
  have hsz0 : w.heap.size + 1 ≤ w0.heap.size := by rw [hw0]; simp
  have Hw0 := hide hw0
  clear hw0
  have e1a := hb1.cell (i := 0) rfl
  have e1b := hb1.cell (i := 1) rfl
  have hl0 := hl.up hup0
  obtain ⟨d, hdd⟩ : ∃ d, d = digs (lim k) := ⟨_, rfl⟩
  have hdg := digs_le _ (dig_lim k).w32
  rw [← hdd, ← Hn.out] at hdg
  have HD := hide hdd
  by_cases hbig : k < top300
  · have hd3 : d ≤ 300 := by rw [hdd]; exact (digs_lim k).2 hbig
    have hB := hide (bnd_ok (z := sgn s k) (by rw [sgn_abs]; exact hbig))
    clear hdd hbig
    go_enter Tryz.func105, Tryz.ntmps105
    go_wp2_with fail
    rw [← Hw0.out]
    refine (digits_any A c _ _ hl0 (dig_lim _).w32 n Hn (by omega)).mono ?_
    rintro e w' ⟨rfl, rfl⟩
    rw [← HD.out]
    go_wp2_with fail
    refine (signed_any s A c n _ (by omega)).mono ?_
    rintro e w2 ⟨rfl, hup2⟩
    obtain ⟨b, hb⟩ : ∃ b, b = (s && decide (0 < n)) := ⟨_, rfl⟩
    rw [← hb]
    have HB2 := hide hb
    clear hb
    have hb2 := hb1.up hup2
    have f1 := hb2.cell (i := 0) rfl
    have f2 := hb2.cell (i := 1) rfl
    have f3 := hb2.frozen 0
    have f4 := hb2.frozen 1
    have q := hb2.two (.bool b) (.slice A n c)
    have hupF := (hup0.trans hup2).two (g := w.heap.size) (Nat.le_refl _) (.bool b) (.slice A n c)
    have HI := hide (isInt_signed (s := s) (hl.up hupF) Hn hc hNB)
    go_wp2
    refine bodyPost_ret (v := .tuple #[.agg #[.bool b, .slice A n c], .int .i64 0]) (by simp [results, Tryz.results105, go_sem, q.1, q.2]) rfl ⟨⟨_, by rw [hB.out.2], ?_⟩, hupF⟩
    rw [hB.out.1, HB2.out]
    have h := HI.out
    rw [← HB2.out] at h ⊢
    exact h
  · have hd3 : 300 < d := by rw [hdd]; exact Nat.lt_of_not_le fun h => hbig ((digs_lim k).1 h)
    have hB := hide (bnd_no (z := sgn s k) (by rw [sgn_abs]; exact hbig))
    clear hdd hbig
    have q := hb1.two (.bool false) (.slice none 0 0)
    have f3 := hb1.frozen 0
    have f4 := hb1.frozen 1
    go_enter Tryz.func105, Tryz.ntmps105
    go_wp2_with fail
    rw [← Hw0.out]
    refine (digits_any A c _ _ hl0 (dig_lim _).w32 n Hn (by omega)).mono ?_
    rintro e w' ⟨rfl, rfl⟩
    rw [← HD.out]
    go_wp2
    refine bodyPost_ret (v := .tuple #[.agg #[.bool false, .slice none 0 0], .int .i64 3]) (by simp [results, Tryz.results105, go_sem, q.1, q.2]) rfl ⟨⟨_, by rw [hB.out.2], ?_⟩, hup0.two (Nat.le_refl _) _ _⟩
    rw [hB.out.1]
    exact IsInt.zero _ _

end Go.Proofs.YtldifgfpecicnaaGreatDoor
/- The program's plus and minus. -/
namespace Go.Proofs.YtldifgfpecicnaaGreatDoor
open Go.RowKit

theorem trim_lim' (A : Option Addr) (c : Nat) (o : List Nat) (w : World) (h : Lim w A o) (n r : Nat) (hn : o.length = n) (hd : Dig o) (hv : val o = r) (hl : n ≤ 1000000) (hc : n ≤ c) :
    Calls Tryz.prog 131 #[.slice A n c] w fun e w' => (∃ n', e = .returned (.slice A n' c) ∧ Hid (n' = (lim r).length) ∧ Lim w' A (lim r) ∧ n' ≤ c) ∧ w = w' :=
  (trim_any A c o w h n hn.symm hl hc).mono fun e w' ⟨he, hw⟩ => by
    subst he
    subst hw
    subst hn
    subst hv
    exact ⟨⟨_, rfl, keep_len hd, by rw [← trim_lim hd]; exact h.take _, Nat.le_trans (keep_le _ _) hc⟩, rfl⟩
/-- How an owned row reads. -/
theorem Own.lim' {w : World} {base g n c : Nat} {l : List Nat} (h : Own w base (.slice (some ⟨g, 0, none⟩) n c) n l) : Lim w (some ⟨g, 0, none⟩) l ∧ base ≤ g := by
  obtain ⟨A, c', e, _, hl, hn⟩ := h.lim
  cases e
  exact ⟨hl, hn _ rfl⟩

set_option maxRecDepth 100000 in
set_option maxHeartbeats 2000000 in
theorem plus_any (A B : Option Addr) (ca cb a b : Nat) (w : World) (hA : Lim w A (lim a)) (hB : Lim w B (lim b)) (n m : Nat) (Hn : Hid (n = (lim a).length)) (Hm : Hid (m = (lim b).length)) (hn : n ≤ 100000) (hm : m ≤ 100000) :
    Calls Tryz.prog 121 #[.slice A n ca, .slice B m cb] w (RetLim w (a + b)) := by
  by_cases hnm : n < m
  · go_enter Tryz.func121, Tryz.ntmps121
    go_wp2_with (at_make; refine wp_mk rfl _ _ rfl w.heap.size (m + 1) _ _ _ _ rfl rfl (by omega) (by omega) (by omega) (Nat.le_refl _) ?_; intro w0 hown0 hup0 hlt0)
    go_wp2
    go_loopw [6, 22] (fun cv iv wr => ∃ (k c : Nat) (L : List Nat), cv = .int .u32 c ∧ iv = .int .i64 k ∧ k ≤ m ∧ c ≤ 1 ∧ Own wr w.heap.size (.slice (some ⟨w.heap.size, 0, none⟩) (m + 1) (m + 1)) (m + 1) L ∧ Dig L ∧ val (L.take k) + bas k * c = val ((lim b).take k) + val ((lim a).take k) ∧ Up w wr) (fun _ iv _ => m - (intOf iv).toNat)
    case atStart => exact ⟨0, 0, _, rfl, rfl, by omega, by omega, hown0, dig_replicate _, by simp [val], hup0⟩
    case round =>
      clear hown0 hup0 hlt0
      obtain ⟨k, c, L, rfl, rfl, hk, hc, hown, hdL, hv, hup⟩ := hrel
      have HV := hide hv
      have HLL := hide hown.len
      clear hv
      by_cases hgo : k < m
      · obtain ⟨ad, rfl, hb, hcell⟩ := (hB.up hup).at_ (k := k) (by rw [← Hm.out]; exact hgo)
        have hx := dig_getD (dig_lim b) k
        obtain ⟨x, Hx⟩ : ∃ x, Hid (x = (lim b).getD k 0) := ⟨_, rfl⟩
        rw [← Hx.out] at hcell hx
        have hcellL := hown.cell (j := k) (by omega)
        have hfrL := hown.frozen k
        have hy := dig_getD (dig_lim a) k
        obtain ⟨y, Hy⟩ : ∃ y, Hid (y = (lim a).getD k 0) := ⟨_, rfl⟩
        rw [← Hy.out] at hy
        by_cases hkm : k < n
        · obtain ⟨bd, rfl, hb2, hcell2⟩ := (hA.up hup).at_ (k := k) (by rw [← Hn.out]; exact hkm)
          rw [← Hy.out] at hcell2
          have HS := hide (plus_step (L := L) (by rw [HLL.out]; omega) HV.out (s := x + y + c) (by rw [Hx.out, Hy.out]))
          have HO := hide (hown.set_ k ((x + y + c) % 1000000000))
          clear hown
          go_wp2
          go_roundw
          case rel => exact ⟨k + 1, (x + y + c) / 1000000000, L.set k ((x + y + c) % 1000000000), by go_num, by go_num, by omega, by omega, by rw [show ((x : Int) + c + y) % 1000000000 = (((x + y + c) % 1000000000 : Nat) : Int) by omega]; exact HO.out, dig_set hdL (by omega), HS.out, hup.setCell (Nat.le_refl _) _⟩
          case measure => simp [intOf]; omega
        · have HY0 : Hid (y = 0) := by show y = 0; rw [Hy.out]; simp [List.getD, List.getElem?_eq_none (show (lim a).length ≤ k by rw [← Hn.out]; omega)]
          have HS := hide (plus_step (L := L) (by rw [HLL.out]; omega) HV.out (s := x + c) (by rw [← Hx.out, ← Hy.out, HY0.out]; omega))
          have HO := hide (hown.set_ k ((x + c) % 1000000000))
          clear hown
          go_wp2
          go_roundw
          case rel => exact ⟨k + 1, (x + c) / 1000000000, L.set k ((x + c) % 1000000000), by go_num, by go_num, by omega, by omega, by rw [show ((x : Int) + c) % 1000000000 = (((x + c) % 1000000000 : Nat) : Int) by omega]; exact HO.out, dig_set hdL (by omega), HS.out, hup.setCell (Nat.le_refl _) _⟩
          case measure => simp [intOf]; omega
      · obtain rfl : k = m := by omega
        have hcellL := hown.cell (j := k) (by omega)
        have hfrL := hown.frozen k
        have HO := hide (hown.set_ k c)
        obtain ⟨hlim1, _⟩ := HO.out.lim'
        have hlen1 := hide HO.out.len
        have hdL1 : Dig (L.set k c) := dig_set hdL (by omega)
        have hupF : Up w (wr.setCell ⟨w.heap.size, k, none⟩ (.int .u32 (c : Int))) := hup.setCell (Nat.le_refl _) _
        have HR : Hid (val (L.set k c) = a + b) := by
          have h1 := HV.out
          have h2 := val_take_set L (k := k) (d := c) (by rw [HLL.out]; omega)
          rw [List.take_of_length_le (by rw [List.length_set, HLL.out]; exact Nat.le_refl _)] at h2
          rw [List.take_of_length_le (l := lim b) (by rw [← Hm.out]; exact Nat.le_refl _), List.take_of_length_le (l := lim a) (by rw [← Hn.out]; omega), val_lim, val_lim] at h1
          show val (L.set k c) = a + b
          omega
        clear hown
        go_wp2_with fail
        refine (trim_lim' _ _ _ _ hlim1 (k + 1) _ hlen1.out hdL1 HR.out (by omega) (Nat.le_refl _)).mono ?_
        rintro e w2 ⟨⟨n2, rfl, HN2, hlim2, hc2⟩, rfl⟩
        go_wp2
        go_ret
        exact ⟨_, n2, _, rfl, HN2, hlim2, hc2, fun ad e => by cases e; exact Nat.le_refl _, hupF⟩
  · go_enter Tryz.func121, Tryz.ntmps121
    go_wp2_with (at_make; refine wp_mk rfl _ _ rfl w.heap.size (n + 1) _ _ _ _ rfl rfl (by omega) (by omega) (by omega) (Nat.le_refl _) ?_; intro w0 hown0 hup0 hlt0)
    go_wp2
    go_loopw [6, 22] (fun cv iv wr => ∃ (k c : Nat) (L : List Nat), cv = .int .u32 c ∧ iv = .int .i64 k ∧ k ≤ n ∧ c ≤ 1 ∧ Own wr w.heap.size (.slice (some ⟨w.heap.size, 0, none⟩) (n + 1) (n + 1)) (n + 1) L ∧ Dig L ∧ val (L.take k) + bas k * c = val ((lim a).take k) + val ((lim b).take k) ∧ Up w wr) (fun _ iv _ => n - (intOf iv).toNat)
    case atStart => exact ⟨0, 0, _, rfl, rfl, by omega, by omega, hown0, dig_replicate _, by simp [val], hup0⟩
    case round =>
      clear hown0 hup0 hlt0
      obtain ⟨k, c, L, rfl, rfl, hk, hc, hown, hdL, hv, hup⟩ := hrel
      have HV := hide hv
      have HLL := hide hown.len
      clear hv
      by_cases hgo : k < n
      · obtain ⟨ad, rfl, hb, hcell⟩ := (hA.up hup).at_ (k := k) (by rw [← Hn.out]; exact hgo)
        have hx := dig_getD (dig_lim a) k
        obtain ⟨x, Hx⟩ : ∃ x, Hid (x = (lim a).getD k 0) := ⟨_, rfl⟩
        rw [← Hx.out] at hcell hx
        have hcellL := hown.cell (j := k) (by omega)
        have hfrL := hown.frozen k
        have hy := dig_getD (dig_lim b) k
        obtain ⟨y, Hy⟩ : ∃ y, Hid (y = (lim b).getD k 0) := ⟨_, rfl⟩
        rw [← Hy.out] at hy
        by_cases hkm : k < m
        · obtain ⟨bd, rfl, hb2, hcell2⟩ := (hB.up hup).at_ (k := k) (by rw [← Hm.out]; exact hkm)
          rw [← Hy.out] at hcell2
          have HS := hide (plus_step (L := L) (by rw [HLL.out]; omega) HV.out (s := x + y + c) (by rw [Hx.out, Hy.out]))
          have HO := hide (hown.set_ k ((x + y + c) % 1000000000))
          clear hown
          go_wp2
          go_roundw
          case rel => exact ⟨k + 1, (x + y + c) / 1000000000, L.set k ((x + y + c) % 1000000000), by go_num, by go_num, by omega, by omega, by rw [show ((x : Int) + c + y) % 1000000000 = (((x + y + c) % 1000000000 : Nat) : Int) by omega]; exact HO.out, dig_set hdL (by omega), HS.out, hup.setCell (Nat.le_refl _) _⟩
          case measure => simp [intOf]; omega
        · have HY0 : Hid (y = 0) := by show y = 0; rw [Hy.out]; simp [List.getD, List.getElem?_eq_none (show (lim b).length ≤ k by rw [← Hm.out]; omega)]
          have HS := hide (plus_step (L := L) (by rw [HLL.out]; omega) HV.out (s := x + c) (by rw [← Hx.out, ← Hy.out, HY0.out]; omega))
          have HO := hide (hown.set_ k ((x + c) % 1000000000))
          clear hown
          go_wp2
          go_roundw
          case rel => exact ⟨k + 1, (x + c) / 1000000000, L.set k ((x + c) % 1000000000), by go_num, by go_num, by omega, by omega, by rw [show ((x : Int) + c) % 1000000000 = (((x + c) % 1000000000 : Nat) : Int) by omega]; exact HO.out, dig_set hdL (by omega), HS.out, hup.setCell (Nat.le_refl _) _⟩
          case measure => simp [intOf]; omega
      · obtain rfl : k = n := by omega
        have hcellL := hown.cell (j := k) (by omega)
        have hfrL := hown.frozen k
        have HO := hide (hown.set_ k c)
        obtain ⟨hlim1, _⟩ := HO.out.lim'
        have hlen1 := hide HO.out.len
        have hdL1 : Dig (L.set k c) := dig_set hdL (by omega)
        have hupF : Up w (wr.setCell ⟨w.heap.size, k, none⟩ (.int .u32 (c : Int))) := hup.setCell (Nat.le_refl _) _
        have HR : Hid (val (L.set k c) = a + b) := by
          have h1 := HV.out
          have h2 := val_take_set L (k := k) (d := c) (by rw [HLL.out]; omega)
          rw [List.take_of_length_le (by rw [List.length_set, HLL.out]; exact Nat.le_refl _)] at h2
          rw [List.take_of_length_le (l := lim a) (by rw [← Hn.out]; exact Nat.le_refl _), List.take_of_length_le (l := lim b) (by rw [← Hm.out]; omega), val_lim, val_lim] at h1
          show val (L.set k c) = a + b
          omega
        clear hown
        go_wp2_with fail
        refine (trim_lim' _ _ _ _ hlim1 (k + 1) _ hlen1.out hdL1 HR.out (by omega) (Nat.le_refl _)).mono ?_
        rintro e w2 ⟨⟨n2, rfl, HN2, hlim2, hc2⟩, rfl⟩
        go_wp2
        go_ret
        exact ⟨_, n2, _, rfl, HN2, hlim2, hc2, fun ad e => by cases e; exact Nat.le_refl _, hupF⟩
end Go.Proofs.YtldifgfpecicnaaGreatDoor
/- Clone; the program's minus. -/
namespace Go.Proofs.YtldifgfpecicnaaGreatDoor
open Go.RowKit

/-- New limbs with the very numbers. -/
def RetRow (w : World) (l : List Nat) (e : Ending) (w' : World) : Prop := ∃ v n, e = .returned v ∧ Hid (n = l.length) ∧ Own w' w.heap.size v n l ∧ Up w w'

set_option maxRecDepth 100000 in
set_option maxHeartbeats 1000000 in
theorem clone_any (A : Option Addr) (c n : Nat) (l : List Nat) (w : World) (h : Lim w A l) (Hn : Hid (n = l.length)) (hn : n ≤ 100000) :
    Calls Tryz.prog 116 #[.slice A n c] w (RetRow w l) := by
  rcases A with _ | ad
  · have hl : l = [] := by rcases h with h | ⟨ad, h, _⟩ <;> first | exact h | cases h
    subst hl
    obtain rfl : n = 0 := Hn.out
    have heq := fun wx => Lib.run_eql_slice_nil (P := Tryz.prog) wx 22
    go_enter Tryz.func116, Tryz.ntmps116
    go_wp2
    go_ret
    exact ⟨_, 0, rfl, rfl, Own.nil _ _, Up.refl w⟩
  · have h1 := Own.lit w (base := w.heap.size) (n := 0) ([] : List Nat) #[] (Nat.le_refl _) (by omega) rfl rfl
    have hne := fun (wx : World) => Lib.run_eql_slice_nil (P := Tryz.prog) wx 22
    go_enter Tryz.func116, Tryz.ntmps116
    go_wp2_with (at_builtin; refine wp_app rfl _ _ rfl w.heap.size (.slice (some ⟨w.heap.size, 0, none⟩) 0 0) 0 [] rfl h1 (some ad) n c l rfl Hn.out.symm (h.up ((Up.refl w).alloc _)) (by omega) (by simp) ?_; intro v1 w1 hown1 hg1)
    simp only [List.nil_append, Nat.zero_add] at hown1
    go_ret
    exact ⟨_, n, rfl, Hn, hown1, ((Up.refl w).alloc _).grown hg1 (fun k hk => by cases hk; exact Nat.le_refl _)⟩

set_option maxRecDepth 100000 in
set_option maxHeartbeats 2000000 in
theorem minus_any (A B : Option Addr) (ca cb a b : Nat) (w : World) (hA : Lim w A (lim a)) (hB : Lim w B (lim b)) (n m : Nat) (Hn : Hid (n = (lim a).length)) (Hm : Hid (m = (lim b).length)) (hn : n ≤ 100000) (hle : b ≤ a) :
    Calls Tryz.prog 122 #[.slice A n ca, .slice B m cb] w (RetLim w (a - b)) := by
  have Hle := hide hle
  have hmn : m ≤ n := by rw [Hn.out, Hm.out]; exact lim_len_mono hle
  clear hle
  go_enter Tryz.func122, Tryz.ntmps122
  go_wp2_with fail
  refine (clone_any A ca n (lim a) _ hA Hn hn).mono ?_
  rintro e w0 ⟨v0, n0, rfl, Hn0, hown0, hup0⟩
  obtain rfl : n0 = n := Hn0.out.trans Hn.out.symm
  obtain ⟨A1, c1, rfl, hc1, _, _⟩ := hown0.lim
  go_wp2
  go_loopw [6, 13] (fun bv iv wr => ∃ (k c : Nat) (L : List Nat), bv = .int .u32 c ∧ iv = .int .i64 k ∧ k ≤ n0 ∧ c ≤ 1 ∧ Own wr w.heap.size (.slice A1 n0 c1) n0 L ∧ Dig L ∧ (∀ j, k ≤ j → L.getD j 0 = (lim a).getD j 0) ∧ val (L.take k) + val ((lim b).take k) = val ((lim a).take k) + bas k * c ∧ Up w wr) (fun _ iv _ => n0 - (intOf iv).toNat)
  case atStart => exact ⟨0, 0, lim a, rfl, rfl, by omega, by omega, hown0, dig_lim a, (fun _ _ => rfl), by simp [val], hup0⟩
  case round =>
    clear hown0 hup0
    obtain ⟨k, c, L, rfl, rfl, hk, hc, hown, hdL, hT, hv, hup⟩ := hrel
    have HV := hide hv
    have HT := hide hT
    have HLL := hide hown.len
    clear hv hT
    by_cases hgo : k < n0
    · obtain ⟨g, c', he, hgB, hgw, hgc⟩ := hown.form (by omega)
      cases he
      have hcellL := hown.cell (j := k) (by omega)
      have hfrL := hown.frozen k
      have hx := dig_getD hdL k
      obtain ⟨x, Hx⟩ : ∃ x, Hid (x = L.getD k 0) := ⟨_, rfl⟩
      rw [← Hx.out] at hcellL hx
      have HX : Hid (x = (lim a).getD k 0) := Hx.out.trans (HT.out k (Nat.le_refl _))
      have hy := dig_getD (dig_lim b) k
      obtain ⟨y, Hy⟩ : ∃ y, Hid (y = (lim b).getD k 0) := ⟨_, rfl⟩
      rw [← Hy.out] at hy
      by_cases hkm : k < m
      · obtain ⟨bd, rfl, hb2, hcell2⟩ := (hB.up hup).at_ (k := k) (by rw [← Hm.out]; exact hkm)
        rw [← Hy.out] at hcell2
        by_cases hlt : x < c + y
        · have HS := hide (minus_step (L := L) (a := lim a) (b := lim b) (d := (x + 1000000000 - (c + y))) (c' := 1) (by rw [HLL.out]; omega) HV.out (by rw [← HX.out, ← Hy.out]; omega))
          have HO := hide ((hown.set_ k (x + 1000000000)).set_ k (x + 1000000000 - (c + y)))
          clear hown
          go_wp2
          go_roundw
          case rel => exact ⟨k + 1, 1, L.set k (x + 1000000000 - (c + y)), rfl, by go_num, by omega, by omega, by have h := HO.out; rw [List.set_set, show ((x + 1000000000 : Nat) : Int) = (x : Int) + 1000000000 by omega, show (((x + 1000000000 - (c + y)) : Nat) : Int) = (x : Int) + 1000000000 - ((c : Int) + y) by omega] at h; exact h, dig_set hdL (by omega), (fun j hj => by rw [getD_set_ne (by omega)]; exact HT.out j (by omega)), HS.out, (hup.setCell hgB _).setCell hgB _⟩
          case measure => simp [intOf]; omega
        · have HS := hide (minus_step (L := L) (a := lim a) (b := lim b) (d := (x - (c + y))) (c' := 0) (by rw [HLL.out]; omega) HV.out (by rw [← HX.out, ← Hy.out]; omega))
          have HO := hide (hown.set_ k (x - (c + y)))
          clear hown
          go_wp2
          go_roundw
          case rel => exact ⟨k + 1, 0, L.set k (x - (c + y)), rfl, by go_num, by omega, by omega, by have h := HO.out; rw [show (((x - (c + y)) : Nat) : Int) = (x : Int) - ((c : Int) + y) by omega] at h; exact h, dig_set hdL (by omega), (fun j hj => by rw [getD_set_ne (by omega)]; exact HT.out j (by omega)), HS.out, hup.setCell hgB _⟩
          case measure => simp [intOf]; omega
      · have HY0 : Hid (y = 0) := by show y = 0; rw [Hy.out]; simp [List.getD, List.getElem?_eq_none (show (lim b).length ≤ k by rw [← Hm.out]; omega)]
        by_cases hlt : x < c
        · have HS := hide (minus_step (L := L) (a := lim a) (b := lim b) (d := (x + 1000000000 - (c))) (c' := 1) (by rw [HLL.out]; omega) HV.out (by rw [← HX.out, ← Hy.out]; have h0 := HY0.out; omega))
          have HO := hide ((hown.set_ k (x + 1000000000)).set_ k (x + 1000000000 - (c)))
          clear hown
          go_wp2
          go_roundw
          case rel => exact ⟨k + 1, 1, L.set k (x + 1000000000 - (c)), rfl, by go_num, by omega, by omega, by have h := HO.out; rw [List.set_set, show ((x + 1000000000 : Nat) : Int) = (x : Int) + 1000000000 by omega, show (((x + 1000000000 - (c)) : Nat) : Int) = (x : Int) + 1000000000 - ((c : Int)) by omega] at h; exact h, dig_set hdL (by omega), (fun j hj => by rw [getD_set_ne (by omega)]; exact HT.out j (by omega)), HS.out, (hup.setCell hgB _).setCell hgB _⟩
          case measure => simp [intOf]; omega
        · have HS := hide (minus_step (L := L) (a := lim a) (b := lim b) (d := (x - (c))) (c' := 0) (by rw [HLL.out]; omega) HV.out (by rw [← HX.out, ← Hy.out]; have h0 := HY0.out; omega))
          have HO := hide (hown.set_ k (x - (c)))
          clear hown
          go_wp2
          go_roundw
          case rel => exact ⟨k + 1, 0, L.set k (x - (c)), rfl, by go_num, by omega, by omega, by have h := HO.out; rw [show (((x - (c)) : Nat) : Int) = (x : Int) - ((c : Int)) by omega] at h; exact h, dig_set hdL (by omega), (fun j hj => by rw [getD_set_ne (by omega)]; exact HT.out j (by omega)), HS.out, hup.setCell hgB _⟩
          case measure => simp [intOf]; omega
    · obtain rfl : k = n0 := by omega
      have hlen1 := hide hown.len
      have HR : Hid (val L = a - b) := sub_end (o := L) Hle.out (by rw [HLL.out, ← Hn.out]) hc hdL (by have h := HV.out; rw [List.take_of_length_le (l := L) (by rw [HLL.out]; exact Nat.le_refl _)] at h; rw [← Hn.out]; exact h)
      obtain ⟨A2, c2, he, hc2, hlim, hnew⟩ := hown.lim
      cases he
      clear hown
      go_wp2_with fail
      refine (trim_lim' _ _ _ _ hlim k _ hlen1.out hdL HR.out (by omega) hc2).mono ?_
      rintro e w2 ⟨⟨n2, rfl, HN2, hlim2, hc3⟩, rfl⟩
      go_wp2
      go_ret
      exact ⟨_, n2, _, rfl, HN2, hlim2, hc3, hnew, hup⟩
end Go.Proofs.YtldifgfpecicnaaGreatDoor
/- The program's times. -/
namespace Go.Proofs.YtldifgfpecicnaaGreatDoor
open Go.RowKit

set_option maxRecDepth 100000 in
set_option maxHeartbeats 4000000 in
theorem times_any (A B : Option Addr) (ca cb a b : Nat) (w : World) (hA : Lim w A (lim a)) (hB : Lim w B (lim b)) (n m : Nat) (Hn : Hid (n = (lim a).length)) (Hm : Hid (m = (lim b).length)) (hn : n ≤ 10000) (hm : m ≤ 10000) :
    Calls Tryz.prog 106 #[.slice A n ca, .slice B m cb] w (RetLim w (a * b)) := by
  go_enter Tryz.func106, Tryz.ntmps106
  go_wp2_with (at_make; refine wp_mk rfl _ _ rfl w.heap.size (n + m) _ _ _ _ rfl rfl (by omega) (by omega) (by omega) (Nat.le_refl _) ?_; intro w0 hown0 hup0 hlt0)
  go_wp2
  go_loopw [20] (fun iv wr => ∃ (i : Nat) (L : List Nat), iv = .int .i64 i ∧ i ≤ n ∧ Own wr w.heap.size (.slice (some ⟨w.heap.size, 0, none⟩) (n + m) (n + m)) (n + m) L ∧ Dig L ∧ (∀ p, i + m ≤ p → L.getD p 0 = 0) ∧ val L = val ((lim a).take i) * b ∧ Up w wr) (fun iv _ => n - (intOf iv).toNat)
  case atStart => exact ⟨0, _, rfl, by omega, hown0, dig_replicate _, (fun p _ => by simp [List.getD, List.getElem?_replicate]; split <;> rfl), by simp [val, val_replicate], hup0⟩
  case round =>
    clear hown0 hup0 hlt0
    obtain ⟨i, L, rfl, hi, hown, hdL, hz, hv, hup⟩ := hrel
    have HV := hide hv
    have HZ := hide hz
    have HLL := hide hown.len
    clear hv hz
    by_cases hgo : i < n
    · obtain ⟨ad, rfl, hb, hcell⟩ := (hA.up hup).at_ (k := i) (by rw [← Hn.out]; exact hgo)
      have hx := dig_getD (dig_lim a) i
      obtain ⟨x, Hx⟩ : ∃ x, Hid (x = (lim a).getD i 0) := ⟨_, rfl⟩
      rw [← Hx.out] at hcell hx
      obtain ⟨wo, hwo⟩ : ∃ wo, wo = wr := ⟨_, rfl⟩
      rw [← hwo] at hown hup hcell hb ⊢
      clear hwo
      go_wp2
      go_loopw [8, 27] (fun cv jv wr => ∃ (j c : Nat) (L : List Nat), cv = .int .u64 c ∧ jv = .int .i64 j ∧ j ≤ m ∧ c < 1000000000 ∧ Own wr w.heap.size (.slice (some ⟨w.heap.size, 0, none⟩) (n + m) (n + m)) (n + m) L ∧ Dig L ∧ (∀ p, i + m ≤ p → L.getD p 0 = 0) ∧ val L + bas (i + j) * c = val ((lim a).take i) * b + bas i * (x * val ((lim b).take j)) ∧ Up w wr) (fun _ jv _ => m - (intOf jv).toNat)
      case atStart => exact ⟨0, 0, L, rfl, rfl, by omega, by omega, hown, hdL, HZ.out, by simp [val]; exact HV.out, hup⟩
      case round =>
        clear hown HV HZ HLL hdL hup hcell hb
        obtain ⟨j, c, L, rfl, rfl, hj, hc, hown, hdL, hz, hv, hup⟩ := hrel
        have HV := hide hv
        have HZ := hide hz
        have HLL := hide hown.len
        clear hv hz
        by_cases hgj : j < m
        · obtain ⟨bd, rfl, hb2, hcell2⟩ := (hB.up hup).at_ (k := j) (by rw [← Hm.out]; exact hgj)
          have hy := dig_getD (dig_lim b) j
          obtain ⟨y, Hy⟩ : ∃ y, Hid (y = (lim b).getD j 0) := ⟨_, rfl⟩
          rw [← Hy.out] at hcell2 hy
          have hcellL := hown.cell (j := i + j) (by omega)
          have hfrL := hown.frozen (i + j)
          have hq := dig_getD hdL (i + j)
          obtain ⟨q, Hq⟩ : ∃ q, Hid (q = L.getD (i + j) 0) := ⟨_, rfl⟩
          rw [← Hq.out] at hcellL hq
          have HC := hide (mul_carry hq hx hy hc (t := q + x * y + c) rfl)
          have HS := hide (mul_step (L := L) (p := i + j) (c := c) (xy := x * y) (t := q + x * y + c) (by rw [HLL.out]; omega) (by rw [← Hq.out]) HV.out)
          obtain ⟨p, Hp⟩ : ∃ p, Hid (p = x * y) := ⟨_, rfl⟩
          have hxy : (x : Int) * (y : Int) = (p : Int) := by rw [Hp.out]; simp
          have HXY : Hid (bas (i + j) * (x * y) = bas i * (x * (bas j * y))) := by show _ = _; rw [bas_add, Nat.mul_assoc, Nat.mul_left_comm (bas j)]
          rw [← Hp.out] at HC HS HXY
          have hp2 := HC.out.2
          have hc2 := HC.out.1
          have HO := hide (hown.set_ (i + j) ((q + p + c) % 1000000000))
          clear hown
          go_wp2
          go_roundw
          case rel =>
            refine ⟨j + 1, (q + p + c) / 1000000000, L.set (i + j) ((q + p + c) % 1000000000), by go_num, by go_num, by omega, hc2, ?_, dig_set hdL (by omega), (fun r hr => by rw [getD_set_ne (by omega)]; exact HZ.out r hr), ?_, hup.setCell (Nat.le_refl _) _⟩
            · have h := HO.out
              rw [show (((q + p + c) % 1000000000 : Nat) : Int) = ((q : Int) + p + c) % 1000000000 by omega] at h
              exact h
            · have h := HS.out
              rw [val_take_step, ← Hy.out, Nat.mul_add, Nat.mul_add, ← HXY.out]
              exact h.trans (Nat.add_assoc _ _ _)
          case measure => simp [intOf]; omega
        · obtain rfl : j = m := by omega
          have hcellL := hown.cell (j := i + j) (by omega)
          have hfrL := hown.frozen (i + j)
          have HO := hide (hown.set_ (i + j) c)
          have HW := hide (val_set L (p := i + j) (d := c) (by rw [HLL.out]; omega))
          clear hown
          go_wp2
          go_roundw
          case rel =>
            refine ⟨i + 1, L.set (i + j) c, by go_num, by omega, HO.out, dig_set hdL hc, (fun r hr => by rw [getD_set_ne (by omega)]; exact HZ.out r (by omega)), ?_, hup.setCell (Nat.le_refl _) _⟩
            have h1 := HW.out
            have h2 := HV.out
            rw [HZ.out (i + j) (Nat.le_refl _), Nat.mul_zero, Nat.add_zero] at h1
            rw [Hm.out, List.take_length, val_lim, ← Hm.out] at h2
            rw [h1, h2, val_take_step, ← Hx.out, Nat.add_mul, Nat.mul_assoc]
          case measure => simp [intOf]; omega
    · obtain rfl : i = n := by omega
      have hlen1 := hide hown.len
      obtain ⟨hlim, _⟩ := hown.lim'
      have HR : Hid (val L = a * b) := by
        have h := HV.out
        rw [List.take_of_length_le (l := lim a) (by rw [← Hn.out]; exact Nat.le_refl _), val_lim] at h
        exact h
      clear hown
      go_wp2_with fail
      refine (trim_lim' _ _ _ _ hlim (i + m) _ hlen1.out hdL HR.out (by omega) (Nat.le_refl _)).mono ?_
      rintro e w2 ⟨⟨n2, rfl, HN2, hlim2, hc2⟩, rfl⟩
      go_wp2
      go_ret
      exact ⟨_, n2, _, rfl, HN2, hlim2, hc2, fun ad e => by cases e; exact Nat.le_refl _, hup⟩
end Go.Proofs.YtldifgfpecicnaaGreatDoor
/- The program's Valid and what it calls. -/
namespace Go.Proofs.YtldifgfpecicnaaGreatDoor
open Go.RowKit

/-- Every number is a limb of the base. -/
def digB (l : List Nat) : Bool := l.all fun x => decide (x < 1000000000)
theorem digB_iff {l : List Nat} : digB l = true ↔ Dig l := by simp [digB, Dig]
theorem digB_take_succ (l : List Nat) {k : Nat} (h : k < l.length) : digB (l.take (k + 1)) = (digB (l.take k) && decide (l.getD k 0 < 1000000000)) := by
  rw [take_snoc_getD l h]; simp [digB]
theorem digB_of_get {l : List Nat} {k : Nat} (_h : k < l.length) (hx : ¬ l.getD k 0 < 1000000000) : digB l = false := by
  rw [Bool.eq_false_iff]
  intro hd
  exact hx (dig_getD (digB_iff.1 hd) k)
/-- An index, at or above 0 just where some number is too wide. -/
def RetIdx (w : World) (l : List Nat) (e : Ending) (w' : World) : Prop := ∃ r : Int, e = .returned (.int .i64 r) ∧ (0 ≤ r ↔ digB l = false) ∧ w = w'

set_option maxRecDepth 100000 in
set_option maxHeartbeats 1000000 in
theorem idx_any (A : Option Addr) (c n : Nat) (l : List Nat) (w : World) (h : Lim w A l) (hw : W32 l) (Hn : Hid (n = l.length)) (hn : n ≤ 9223372036854775807) :
    Calls Tryz.prog 112 #[.slice A n c, .func (.func 82) #[] #[]] w (RetIdx w l) := by
  go_enter Tryz.func112, Tryz.ntmps112
  go_wp2
  go_loop [8] (fun iv => ∃ k : Nat, iv = .int .i64 k ∧ k ≤ n ∧ digB (l.take k) = true) (fun iv => n - (intOf iv).toNat)
  case atStart => exact ⟨0, rfl, by omega, rfl⟩
  case round =>
    obtain ⟨k, rfl, hk, hd⟩ := hrel
    have HD := hide hd
    clear hd
    by_cases hgo : k < n
    · obtain ⟨ad, rfl, hb, hcell⟩ := h.at_ (k := k) (by rw [← Hn.out]; exact hgo)
      have hx := W32.getD hw k
      obtain ⟨x, Hx⟩ : ∃ x, Hid (x = l.getD k 0) := ⟨_, rfl⟩
      rw [← Hx.out] at hcell hx
      by_cases hwide : x < 1000000000
      · have hdec : decide ((1000000000 : Int) ≤ (x : Int)) = false := by rw [decide_eq_false_iff_not]; omega
        go_wp2_with (go_at_call 82; refine (wide_any x _ hx).mono ?_; rintro e w' ⟨rfl, rfl⟩)
        go_round
        case rel => exact ⟨k + 1, by go_num, by omega, by rw [digB_take_succ l (by rw [← Hn.out]; exact hgo), HD.out, ← Hx.out]; simp; omega⟩
        case measure => simp [intOf]; omega
      · have hdec : decide ((1000000000 : Int) ≤ (x : Int)) = true := by rw [decide_eq_true_iff]; omega
        have HW := hide hwide
        clear hwide
        go_wp2_with (go_at_call 82; refine (wide_any x _ hx).mono ?_; rintro e w' ⟨rfl, rfl⟩)
        go_ret
        exact ⟨_, rfl, by simp [digB_of_get (l := l) (k := k) (by rw [← Hn.out]; exact hgo) (by rw [← Hx.out]; exact HW.out)], rfl⟩
    · obtain rfl : k = n := by omega
      have hd := HD.out
      rw [Hn.out, List.take_length] at hd
      have HD2 := hide hd
      clear hd
      go_wp2
      go_ret
      exact ⟨_, rfl, by simp [HD2.out], rfl⟩

set_option maxRecDepth 100000 in
set_option maxHeartbeats 1000000 in
theorem contains_any (A : Option Addr) (c n : Nat) (l : List Nat) (w : World) (h : Lim w A l) (hw : W32 l) (Hn : Hid (n = l.length)) (hn : n ≤ 9223372036854775807) :
    Calls Tryz.prog 81 #[.slice A n c, .func (.func 82) #[] #[]] w fun e w' => e = .returned (.bool (!digB l)) ∧ w = w' := by
  go_enter Tryz.func81, Tryz.ntmps81
  go_wp2_with fail
  refine (idx_any A c n l _ h hw Hn hn).mono ?_
  rintro e w' ⟨r, rfl, hr, rfl⟩
  have HR := hide hr
  clear hr
  go_wp2
  go_ret
  refine ⟨?_, rfl⟩
  have h1 := HR.out
  refine (ret_bool (?_ : decide ((0 : Int) ≤ r) = !digB l))
  cases hd : digB l
  · rw [hd] at h1; simp; exact h1.2 rfl
  · rw [hd] at h1; simp at h1 ⊢; exact h1

/-- Whether a raw integer is valid. -/
def rawValid (s : Bool) (l : List Nat) : Bool := if l.length = 0 then !s else decide (l.getD (l.length - 1) 0 ≠ 0) && decide (digs l ≤ 300) && digB l

set_option maxRecDepth 100000 in
set_option maxHeartbeats 2000000 in
theorem valid_any (s : Bool) (A : Option Addr) (c n : Nat) (l : List Nat) (w : World) (h : Lim w A l) (hw : W32 l) (Hn : Hid (n = l.length)) (hn : n ≤ 1000000) :
    Calls Tryz.prog 44 #[.agg #[.bool s, .slice A n c]] w fun e w' => e = .returned (.bool (rawValid s l)) ∧ Up w w' := by
  have hl1 := h.up ((Up.refl w).alloc (.cells #[.bool s, .slice A n c] 24))
  by_cases hz : n = 0
  · subst hz
    have HR : Hid (rawValid s l = !s) := by show _ = _; unfold rawValid; rw [if_pos (by rw [← Hn.out])]
    go_enter Tryz.func44, Tryz.ntmps44
    go_wp2
    go_ret
    exact ⟨by rw [HR.out]; rfl, (Up.refl w).alloc _⟩
  · obtain ⟨n, rfl⟩ : ∃ k, n = k + 1 := ⟨n - 1, by omega⟩
    have HR : Hid (rawValid s l = (decide (l.getD n 0 ≠ 0) && decide (digs l ≤ 300) && digB l)) := by
      show _ = _; unfold rawValid; rw [if_neg (by rw [← Hn.out]; omega), ← Hn.out]; rfl
    obtain ⟨ad, rfl, hb, hcell⟩ := hl1.at_ (k := n) (by rw [← Hn.out]; omega)
    have hdg := digs_le _ hw
    rw [← Hn.out] at hdg
    obtain ⟨d, Hd⟩ : ∃ d, Hid (d = digs l) := ⟨_, rfl⟩
    rw [← Hd.out] at hdg HR
    obtain ⟨x, Hx⟩ : ∃ x, Hid (x = l.getD n 0) := ⟨_, rfl⟩
    rw [← Hx.out] at hcell HR
    have hcx : ∀ o, (w.alloc o).cell? (ad.add n) = some (.int .u32 (x : Int)) := by
      intro o
      obtain ⟨ad', he, _, hc'⟩ := (h.up ((Up.refl w).alloc o)).at_ (k := n) (by rw [← Hn.out]; omega)
      cases he
      rw [hc', Hx.out]
    by_cases hx0 : x = 0
    · have hxb : ((x : Int) != 0) = false := by rw [hx0]; rfl
      have HR2 : Hid (rawValid s l = false) := by show _ = _; rw [HR.out, hx0]; simp
      clear hx0
      go_enter Tryz.func44, Tryz.ntmps44
      go_wp2
      go_ret
      exact ⟨by rw [HR2.out]; rfl, (Up.refl w).alloc _⟩
    · have hxb : ((x : Int) != 0) = true := by rw [bne_iff_ne]; omega
      by_cases hd3 : d ≤ 300
      · have hdb : decide ((d : Int) ≤ 300) = true := by rw [decide_eq_true_iff]; omega
        have HR2 : Hid (rawValid s l = digB l) := by show _ = _; rw [HR.out]; simp [hx0, hd3]
        clear hx0
        go_enter Tryz.func44, Tryz.ntmps44
        go_wp2_with fail
        refine (digits_any (some ad) c l _ hl1 hw (n + 1) Hn (by omega)).mono ?_
        rintro e w' ⟨rfl, rfl⟩
        rw [← Hd.out]
        go_wp2_with fail
        refine (contains_any (some ad) c (n + 1) l _ hl1 hw Hn (by omega)).mono ?_
        rintro e w' ⟨rfl, rfl⟩
        go_wp2
        go_ret
        exact ⟨by rw [HR2.out, ← Bool.not_not (digB l)]; rfl, (Up.refl w).alloc _⟩
      · have hdb : decide ((d : Int) ≤ 300) = false := by rw [decide_eq_false_iff_not]; omega
        have HR2 : Hid (rawValid s l = false) := by show _ = _; rw [HR.out]; simp [hd3]
        clear hx0
        go_enter Tryz.func44, Tryz.ntmps44
        go_wp2_with fail
        refine (digits_any (some ad) c l _ hl1 hw (n + 1) Hn (by omega)).mono ?_
        rintro e w' ⟨rfl, rfl⟩
        rw [← Hd.out]
        go_wp2
        go_ret
        exact ⟨by rw [HR2.out]; rfl, (Up.refl w).alloc _⟩
end Go.Proofs.YtldifgfpecicnaaGreatDoor
/- The program's bothValid, Sign, sum, Add, Sub, Mul on valid integers. -/
namespace Go.Proofs.YtldifgfpecicnaaGreatDoor
open Go.RowKit

theorem rawValid_int {s : Bool} {z : Int} (hs : s = decide (z < 0)) (hz : z.natAbs < top300) : rawValid s (lim z.natAbs) = true := by
  unfold rawValid
  split
  · next h => rw [lim_len_zero] at h; rw [hs]; simp; omega
  · next h =>
    have hn : lim z.natAbs ≠ [] := fun e => h (by rw [e]; rfl)
    have h1 := lim_last z.natAbs _ (getLast_getD hn)
    have h2 := (digs_lim z.natAbs).2 hz
    have h3 := digB_iff.2 (dig_lim z.natAbs)
    rw [h3]; simp [h2]; simpa [List.getD] using h1

theorem validI_any (B : Nat) (v : Value) (x : Int) (w : World) (hv : IsInt B w v x) (hx : x.natAbs < top300) : Calls Tryz.prog 44 #[v] w fun e w' => e = .returned (.bool true) ∧ Up w w' := by
  obtain ⟨s, A, n, c, rfl, Hs, Hn, hl, hc, _⟩ := hv
  refine (valid_any s A c n _ w hl (dig_lim _).w32 Hn (by rw [Hn.out]; have := len_of_top hx; omega)).mono ?_
  rintro e w' ⟨rfl, hup⟩
  exact ⟨by rw [rawValid_int Hs.out hx], hup⟩

set_option maxRecDepth 100000 in
set_option maxHeartbeats 2000000 in
theorem both_any (B B' : Nat) (v v' : Value) (x y : Int) (w : World) (hv : IsInt B w v x) (hv' : IsInt B' w v' y) (hx : x.natAbs < top300) (hy : y.natAbs < top300) : Calls Tryz.prog 88 #[v, v'] w fun e w' => e = .returned (.bool true) ∧ Up w w' := by
  obtain ⟨s, A, n, c, rfl, Hs, Hn, hl, hc, hN⟩ := hv
  obtain ⟨t, C, m, d, rfl, Ht, Hm, hm, hd, hN'⟩ := hv'
  obtain ⟨w0, hw0⟩ : ∃ w0, w0 = ((w.alloc (.cells #[.bool s, .slice A n c] 24)).alloc (.cells #[.bool t, .slice C m d] 24)) := ⟨_, rfl⟩
  have hb1 : Bk w0 (w.heap.size) 24 #[.bool s, .slice A n c] := by
    have := (Bk.new w 24 #[.bool s, .slice A n c]).alloc (.cells #[.bool t, .slice C m d] 24)
    rw [hw0]; simpa using this
  have hb2 : Bk w0 (w.heap.size + 1) 24 #[.bool t, .slice C m d] := by
    have := Bk.new (w.alloc (.cells #[.bool s, .slice A n c] 24)) 24 #[.bool t, .slice C m d]
    rw [hw0]; simpa using this
  have hup0 : Up w w0 := by rw [hw0]; exact ((Up.refl w).alloc _).alloc _
  have hsz0 : w.heap.size + 2 ≤ w0.heap.size := by rw [hw0]; simp
  have Hw0 := hide hw0
  clear hw0
  have e1a := hb1.cell (i := 0) rfl
  have e1b := hb1.cell (i := 1) rfl
  have e2a := hb2.cell (i := 0) rfl
  have e2b := hb2.cell (i := 1) rfl
  go_enter Tryz.func88, Tryz.ntmps88
  go_wp2_with fail
  rw [← Hw0.out]
  refine (validI_any B _ x w0 ⟨s, A, n, c, rfl, Hs, Hn, hl.up hup0, hc, hN⟩ hx).mono ?_
  rintro e w1 ⟨rfl, hup1⟩
  have g1 := hup1.keep e2a
  have g2 := hup1.keep e2b
  go_wp2_with fail
  refine (validI_any B' _ y w1 ⟨t, C, m, d, rfl, Ht, Hm, hm.up (hup0.trans hup1), hd, hN'⟩ hy).mono ?_
  rintro e w2 ⟨rfl, hup2⟩
  go_wp2
  go_ret
  exact ⟨rfl, (hup0.trans hup1).trans hup2⟩

set_option maxRecDepth 100000 in
set_option maxHeartbeats 4000000 in
theorem sum_any (B B' : Nat) (v v' : Value) (x y : Int) (w : World) (hv : IsInt B w v x) (hv' : IsInt B' w v' y) (hx : x.natAbs < top300) (hy : y.natAbs < top300) :
    Calls Tryz.prog 92 #[v, v'] w (RetIntE w (x + y)) := by
  obtain ⟨s, A, n, c, rfl, Hs, Hn, hl, hc, _⟩ := hv
  obtain ⟨t, C, m, d, rfl, Ht, Hm, hm, hd, _⟩ := hv'
  have hn34 : n ≤ 34 := by rw [Hn.out]; exact len_of_top hx
  have hm34 : m ≤ 34 := by rw [Hm.out]; exact len_of_top hy
  obtain ⟨w0, hw0⟩ : ∃ w0, w0 = (((w.alloc (.cells #[.bool s, .slice A n c] 24)).alloc (.cells #[.bool t, .slice C m d] 24)).alloc (.cells #[.bool false, .slice none 0 0] 24)) := ⟨_, rfl⟩
  have hb1 : Bk w0 (w.heap.size) 24 #[.bool s, .slice A n c] := by
    have := ((Bk.new w 24 #[.bool s, .slice A n c]).alloc (.cells #[.bool t, .slice C m d] 24)).alloc (.cells #[.bool false, .slice none 0 0] 24)
    rw [hw0]; simpa using this
  have hb2 : Bk w0 (w.heap.size + 1) 24 #[.bool t, .slice C m d] := by
    have := (Bk.new (w.alloc (.cells #[.bool s, .slice A n c] 24)) 24 #[.bool t, .slice C m d]).alloc (.cells #[.bool false, .slice none 0 0] 24)
    rw [hw0]; simpa using this
  have hb3 : Bk w0 (w.heap.size + 1 + 1) 24 #[.bool false, .slice none 0 0] := by
    have := Bk.new ((w.alloc (.cells #[.bool s, .slice A n c] 24)).alloc (.cells #[.bool t, .slice C m d] 24)) 24 #[.bool false, .slice none 0 0]
    rw [hw0]; simpa using this
  have hup0 : Up w w0 := by rw [hw0]; exact (((Up.refl w).alloc _).alloc _).alloc _
  have hsz0 : w.heap.size + 3 ≤ w0.heap.size := by rw [hw0]; simp
  have Hw0 := hide hw0
  clear hw0
  have e1a := hb1.cell (i := 0) rfl
  have e1b := hb1.cell (i := 1) rfl
  have e2a := hb2.cell (i := 0) rfl
  have e2b := hb2.cell (i := 1) rfl
  have e3a := hb3.cell (i := 0) rfl
  have e3b := hb3.cell (i := 1) rfl
  have HSZ0 : Hid (w.heap.size + 1 + 1 + 1 ≤ w0.heap.size) := hsz0
  by_cases hst : s = t
  · subst hst
    have hsum : Hid (sgn s (x.natAbs + y.natAbs) = x + y) := by
      have h1 := Hs.out
      have h2 := Ht.out
      show _ = _
      unfold sgn
      by_cases hx0 : x < 0 <;> by_cases hy0 : y < 0 <;> simp [hx0, hy0] at h1 h2 <;> subst h1 <;> simp_all <;> omega
    have hlen : Hid ((lim (x.natAbs + y.natAbs)).length ≤ 100) := by
      show _ ≤ _
      rw [lim_len_le]
      have h1 : top300 + top300 ≤ bas 34 := by have : bas 34 = 1000000000 * bas 33 := rfl; unfold top300; omega
      have h2 : bas 34 ≤ bas 100 := bas_mono (by omega)
      omega
    have hss : (s == s) = true := by simp
    go_enter Tryz.func92, Tryz.ntmps92
    go_wp2_with fail
    rw [← Hw0.out]
    have hupA : Up w0 w0.drew := (Up.refl w0).drew
    have HSA := hide (Nat.le_trans HSZ0.out hupA.size)
    go_region_held3 (fun w' => w'.cell? ⟨w.heap.size, 0, none⟩ = some (.bool s) ∧ w'.cell? ⟨w.heap.size, 1, none⟩ = some (.slice A n c) ∧ w'.cell? ⟨w.heap.size + 1, 1, none⟩ = some (.slice C m d))
      (first | (exact ⟨hupA.keep e1a, hupA.keep e1b, hupA.keep e2b⟩) | (exact ⟨((hb1.up hupA).far2 (by omega) _ _).cell (i := 0) rfl, ((hb1.up hupA).far2 (by omega) _ _).cell (i := 1) rfl, ((hb2.up hupA).far2 (by omega) _ _).cell (i := 1) rfl⟩))
      (first
        | (go_at_call 121; refine (plus_any A C c d x.natAbs y.natAbs _ (hl.up (hup0.trans hupA)) (hm.up (hup0.trans hupA)) n m Hn Hm (by omega) (by omega)).mono ?_; rintro e w1 ⟨A1, n1, c1, rfl, Hn1, hl1, hc1, hnew1, hup1⟩; replace hupA := hupA.trans hup1)
        | (go_at_call 105; refine (bounded_any (w.heap.size + 1 + 1 + 1) s A1 c1 n1 (x.natAbs + y.natAbs) _ hl1 Hn1 (by rw [Hn1.out]; have := hlen.out; omega) hc1 (hnew1.mono HSA.out)).mono ?_; rintro e w2 ⟨⟨v2, rfl, hv2⟩, hup2⟩; replace hupA := hupA.trans hup2; rw [hsum.out] at hv2; rw [hsum.out]; obtain ⟨s2, A2, n2, c2, rfl, Hs2, Hn2, hl2, hc2, hnew2⟩ := hv2; have hb4 := hb3.up hupA; have f1 := hb4.cell (i := 0) rfl; have f2 := hb4.cell (i := 1) rfl; have f3 := hb4.frozen 0; have f4 := hb4.frozen 1))
    have hq := hb4.two (.bool s2) (.slice A2 n2 c2)
    go_wp2
    refine bodyPost_ret (v := .tuple #[.agg #[.bool s2, .slice A2 n2 c2], .int .i64 (bndE (x + y))]) (by simp [results, Tryz.results92, go_sem, hq.1, hq.2]) rfl ⟨_, rfl, ⟨s2, A2, n2, c2, rfl, Hs2, Hn2, hl2.two hnew2 _ _, hc2, hnew2.mono (by omega)⟩, (hup0.trans hupA).two (by omega) _ _⟩
  · have hst2 : (s == t) = false := by simp [hst]
    have hlen : ∀ k, k < top300 → (lim k).length ≤ 100 := fun k hk => Nat.le_trans (len_of_top hk) (by omega)
    rcases Nat.lt_or_ge x.natAbs y.natAbs with hlt | hge
    · have hsum : Hid (sgn t (y.natAbs - x.natAbs) = x + y) := by
        have h1 := Hs.out
        have h2 := Ht.out
        show _ = _
        unfold sgn
        by_cases hx0 : x < 0 <;> by_cases hy0 : y < 0 <;> simp [hx0, hy0] at h1 h2 <;> subst h1 <;> subst h2 <;> simp_all <;> omega
      replace hlen : Hid ((lim (y.natAbs - x.natAbs)).length ≤ 100) := hlen _ (by omega)
      have hc0 := cmpN_lt hlt
      have HLT := hide hlt
      clear hlt hst
      go_enter Tryz.func92, Tryz.ntmps92
      go_wp2_with fail
      rw [← Hw0.out]
      refine (compare_any A C c d x.natAbs y.natAbs _ (hl.up hup0) (hm.up hup0) n m Hn Hm (by omega) (by omega)).mono ?_
      rintro e w' ⟨rfl, q, rfl⟩
      rw [hc0]
      clear hc0
      go_wp2_with fail
      have hupA : Up w0 (w0.drewN q).drew := ((Up.refl w0).drewN q).drew
      have HSA := hide (Nat.le_trans HSZ0.out hupA.size)
      go_region_held3 (fun w' => w'.cell? ⟨w.heap.size + 1, 0, none⟩ = some (.bool t) ∧ w'.cell? ⟨w.heap.size + 1, 1, none⟩ = some (.slice C m d) ∧ w'.cell? ⟨w.heap.size, 1, none⟩ = some (.slice A n c))
        (first | (exact ⟨hupA.keep e2a, hupA.keep e2b, hupA.keep e1b⟩) | (exact ⟨((hb2.up hupA).far2 (by omega) _ _).cell (i := 0) rfl, ((hb2.up hupA).far2 (by omega) _ _).cell (i := 1) rfl, ((hb1.up hupA).far2 (by omega) _ _).cell (i := 1) rfl⟩))
        (first
          | (go_at_call 122; refine (minus_any C A d c y.natAbs x.natAbs _ (hm.up (hup0.trans hupA)) (hl.up (hup0.trans hupA)) m n Hm Hn (by omega) (Nat.le_of_lt HLT.out)).mono ?_; rintro e w1 ⟨A1, n1, c1, rfl, Hn1, hl1, hc1, hnew1, hup1⟩; replace hupA := hupA.trans hup1)
          | (go_at_call 105; refine (bounded_any (w.heap.size + 1 + 1 + 1) t A1 c1 n1 (y.natAbs - x.natAbs) _ hl1 Hn1 (by rw [Hn1.out]; have := hlen.out; omega) hc1 (hnew1.mono HSA.out)).mono ?_; rintro e w2 ⟨⟨v2, rfl, hv2⟩, hup2⟩; replace hupA := hupA.trans hup2; rw [hsum.out] at hv2; rw [hsum.out]; obtain ⟨s2, A2, n2, c2, rfl, Hs2, Hn2, hl2, hc2, hnew2⟩ := hv2; have hb4 := hb3.up hupA; have f1 := hb4.cell (i := 0) rfl; have f2 := hb4.cell (i := 1) rfl; have f3 := hb4.frozen 0; have f4 := hb4.frozen 1))
      have hq := hb4.two (.bool s2) (.slice A2 n2 c2)
      go_wp2
      refine bodyPost_ret (v := .tuple #[.agg #[.bool s2, .slice A2 n2 c2], .int .i64 (bndE (x + y))]) (by simp [results, Tryz.results92, go_sem, hq.1, hq.2]) rfl ⟨_, rfl, ⟨s2, A2, n2, c2, rfl, Hs2, Hn2, hl2.two hnew2 _ _, hc2, hnew2.mono (by omega)⟩, (hup0.trans hupA).two (by omega) _ _⟩
    · have hsum : Hid (sgn s (x.natAbs - y.natAbs) = x + y) := by
        have h1 := Hs.out
        have h2 := Ht.out
        show _ = _
        unfold sgn
        by_cases hx0 : x < 0 <;> by_cases hy0 : y < 0 <;> simp [hx0, hy0] at h1 h2 <;> subst h1 <;> subst h2 <;> simp_all <;> omega
      replace hlen : Hid ((lim (x.natAbs - y.natAbs)).length ≤ 100) := hlen _ (by omega)
      have hc0 : ¬ cmpN x.natAbs y.natAbs < 0 := by unfold cmpN; rw [if_neg (by omega)]; split <;> omega
      obtain ⟨z, hz⟩ : ∃ z, z = cmpN x.natAbs y.natAbs := ⟨_, rfl⟩
      rw [← hz] at hc0
      have HZ := hide hz
      have HGE := hide hge
      clear hge hst hz
      go_enter Tryz.func92, Tryz.ntmps92
      go_wp2_with fail
      rw [← Hw0.out]
      refine (compare_any A C c d x.natAbs y.natAbs _ (hl.up hup0) (hm.up hup0) n m Hn Hm (by omega) (by omega)).mono ?_
      rintro e w' ⟨rfl, q, rfl⟩
      rw [← HZ.out]
      go_wp2_with fail
      have hupA : Up w0 (w0.drewN q).drew := ((Up.refl w0).drewN q).drew
      have HSA := hide (Nat.le_trans HSZ0.out hupA.size)
      go_region_held3 (fun w' => w'.cell? ⟨w.heap.size, 0, none⟩ = some (.bool s) ∧ w'.cell? ⟨w.heap.size, 1, none⟩ = some (.slice A n c) ∧ w'.cell? ⟨w.heap.size + 1, 1, none⟩ = some (.slice C m d))
        (first | (exact ⟨hupA.keep e1a, hupA.keep e1b, hupA.keep e2b⟩) | (exact ⟨((hb1.up hupA).far2 (by omega) _ _).cell (i := 0) rfl, ((hb1.up hupA).far2 (by omega) _ _).cell (i := 1) rfl, ((hb2.up hupA).far2 (by omega) _ _).cell (i := 1) rfl⟩))
        (first
          | (go_at_call 122; refine (minus_any A C c d x.natAbs y.natAbs _ (hl.up (hup0.trans hupA)) (hm.up (hup0.trans hupA)) n m Hn Hm (by omega) HGE.out).mono ?_; rintro e w1 ⟨A1, n1, c1, rfl, Hn1, hl1, hc1, hnew1, hup1⟩; replace hupA := hupA.trans hup1)
          | (go_at_call 105; refine (bounded_any (w.heap.size + 1 + 1 + 1) s A1 c1 n1 (x.natAbs - y.natAbs) _ hl1 Hn1 (by rw [Hn1.out]; have := hlen.out; omega) hc1 (hnew1.mono HSA.out)).mono ?_; rintro e w2 ⟨⟨v2, rfl, hv2⟩, hup2⟩; replace hupA := hupA.trans hup2; rw [hsum.out] at hv2; rw [hsum.out]; obtain ⟨s2, A2, n2, c2, rfl, Hs2, Hn2, hl2, hc2, hnew2⟩ := hv2; have hb4 := hb3.up hupA; have f1 := hb4.cell (i := 0) rfl; have f2 := hb4.cell (i := 1) rfl; have f3 := hb4.frozen 0; have f4 := hb4.frozen 1))
      have hq := hb4.two (.bool s2) (.slice A2 n2 c2)
      go_wp2
      refine bodyPost_ret (v := .tuple #[.agg #[.bool s2, .slice A2 n2 c2], .int .i64 (bndE (x + y))]) (by simp [results, Tryz.results92, go_sem, hq.1, hq.2]) rfl ⟨_, rfl, ⟨s2, A2, n2, c2, rfl, Hs2, Hn2, hl2.two hnew2 _ _, hc2, hnew2.mono (by omega)⟩, (hup0.trans hupA).two (by omega) _ _⟩

set_option maxRecDepth 100000 in
set_option maxHeartbeats 2000000 in
theorem add_any (B B' : Nat) (v v' : Value) (x y : Int) (w : World) (hv : IsInt B w v x) (hv' : IsInt B' w v' y) (hx : x.natAbs < top300) (hy : y.natAbs < top300) :
    Calls Tryz.prog 91 #[v, v'] w (RetIntE w (x + y)) := by
  obtain ⟨s, A, n, c, rfl, Hs, Hn, hl, hc, hN⟩ := hv
  obtain ⟨t, C, m, d, rfl, Ht, Hm, hm, hd, hN'⟩ := hv'
  obtain ⟨w0, hw0⟩ : ∃ w0, w0 = (((w.alloc (.cells #[.bool s, .slice A n c] 24)).alloc (.cells #[.bool t, .slice C m d] 24)).alloc (.cells #[.bool false, .slice none 0 0] 24)) := ⟨_, rfl⟩
  have hb1 : Bk w0 (w.heap.size) 24 #[.bool s, .slice A n c] := by
    have := ((Bk.new w 24 #[.bool s, .slice A n c]).alloc (.cells #[.bool t, .slice C m d] 24)).alloc (.cells #[.bool false, .slice none 0 0] 24)
    rw [hw0]; simpa using this
  have hb2 : Bk w0 (w.heap.size + 1) 24 #[.bool t, .slice C m d] := by
    have := (Bk.new (w.alloc (.cells #[.bool s, .slice A n c] 24)) 24 #[.bool t, .slice C m d]).alloc (.cells #[.bool false, .slice none 0 0] 24)
    rw [hw0]; simpa using this
  have hb3 : Bk w0 (w.heap.size + 1 + 1) 24 #[.bool false, .slice none 0 0] := by
    have := Bk.new ((w.alloc (.cells #[.bool s, .slice A n c] 24)).alloc (.cells #[.bool t, .slice C m d] 24)) 24 #[.bool false, .slice none 0 0]
    rw [hw0]; simpa using this
  have hup0 : Up w w0 := by rw [hw0]; exact (((Up.refl w).alloc _).alloc _).alloc _
  have hsz0 : w.heap.size + 3 ≤ w0.heap.size := by rw [hw0]; simp
  have Hw0 := hide hw0
  clear hw0
  have e1a := hb1.cell (i := 0) rfl
  have e1b := hb1.cell (i := 1) rfl
  have e2a := hb2.cell (i := 0) rfl
  have e2b := hb2.cell (i := 1) rfl
  have e3a := hb3.cell (i := 0) rfl
  have e3b := hb3.cell (i := 1) rfl
  go_enter Tryz.func91, Tryz.ntmps91
  go_wp2_with fail
  rw [← Hw0.out]
  refine (both_any B B' _ _ x y w0 ⟨s, A, n, c, rfl, Hs, Hn, hl.up hup0, hc, hN⟩ ⟨t, C, m, d, rfl, Ht, Hm, hm.up hup0, hd, hN'⟩ hx hy).mono ?_
  rintro e w1 ⟨rfl, hup1⟩
  have g1 := hup1.keep e1a
  have g2 := hup1.keep e1b
  have g3 := hup1.keep e2a
  have g4 := hup1.keep e2b
  go_wp2_with fail
  refine (sum_any B B' _ _ x y w1 ⟨s, A, n, c, rfl, Hs, Hn, hl.up (hup0.trans hup1), hc, hN⟩ ⟨t, C, m, d, rfl, Ht, Hm, hm.up (hup0.trans hup1), hd, hN'⟩ hx hy).mono ?_
  rintro e w2 ⟨v2, rfl, hv2, hup2⟩
  obtain ⟨s2, A2, n2, c2, rfl, Hs2, Hn2, hl2, hc2, hnew2⟩ := hv2
  have hb4 := (hb3.up hup1).up hup2
  have f1 := hb4.cell (i := 0) rfl
  have f2 := hb4.cell (i := 1) rfl
  have f3 := hb4.frozen 0
  have f4 := hb4.frozen 1
  have hq := hb4.two (.bool s2) (.slice A2 n2 c2)
  have hnew3 : NewB (w.heap.size + 1 + 1 + 1) A2 := hnew2.mono (by have := hup1.size; omega)
  go_wp2
  refine bodyPost_ret (v := .tuple #[.agg #[.bool s2, .slice A2 n2 c2], .int .i64 (bndE (x + y))]) (by simp [results, Tryz.results91, go_sem, hq.1, hq.2]) rfl ⟨_, rfl, ⟨s2, A2, n2, c2, rfl, Hs2, Hn2, hl2.two hnew3 _ _, hc2, hnew3.mono (by omega)⟩, ((hup0.trans hup1).trans hup2).two (by omega) _ _⟩
end Go.Proofs.YtldifgfpecicnaaGreatDoor
/- The program's Sub, Mul on valid integers. -/
namespace Go.Proofs.YtldifgfpecicnaaGreatDoor
open Go.RowKit

set_option maxRecDepth 100000 in
set_option maxHeartbeats 4000000 in
theorem sub_any (B B' : Nat) (v v' : Value) (x y : Int) (w : World) (hv : IsInt B w v x) (hv' : IsInt B' w v' y) (hx : x.natAbs < top300) (hy : y.natAbs < top300) :
    Calls Tryz.prog 63 #[v, v'] w (RetIntE w (x - y)) := by
  obtain ⟨s, A, n, c, rfl, Hs, Hn, hl, hc, hN⟩ := hv
  obtain ⟨t, C, m, d, rfl, Ht, Hm, hm, hd, hN'⟩ := hv'
  obtain ⟨w0, hw0⟩ : ∃ w0, w0 = (((w.alloc (.cells #[.bool s, .slice A n c] 24)).alloc (.cells #[.bool t, .slice C m d] 24)).alloc (.cells #[.bool false, .slice none 0 0] 24)) := ⟨_, rfl⟩
  have hb1 : Bk w0 (w.heap.size) 24 #[.bool s, .slice A n c] := by
    have := ((Bk.new w 24 #[.bool s, .slice A n c]).alloc (.cells #[.bool t, .slice C m d] 24)).alloc (.cells #[.bool false, .slice none 0 0] 24)
    rw [hw0]; simpa using this
  have hb2 : Bk w0 (w.heap.size + 1) 24 #[.bool t, .slice C m d] := by
    have := (Bk.new (w.alloc (.cells #[.bool s, .slice A n c] 24)) 24 #[.bool t, .slice C m d]).alloc (.cells #[.bool false, .slice none 0 0] 24)
    rw [hw0]; simpa using this
  have hb3 : Bk w0 (w.heap.size + 1 + 1) 24 #[.bool false, .slice none 0 0] := by
    have := Bk.new ((w.alloc (.cells #[.bool s, .slice A n c] 24)).alloc (.cells #[.bool t, .slice C m d] 24)) 24 #[.bool false, .slice none 0 0]
    rw [hw0]; simpa using this
  have hup0 : Up w w0 := by rw [hw0]; exact (((Up.refl w).alloc _).alloc _).alloc _
  have hsz0 : w.heap.size + 3 ≤ w0.heap.size := by rw [hw0]; simp
  have Hw0 := hide hw0
  clear hw0
  have e1a := hb1.cell (i := 0) rfl
  have e1b := hb1.cell (i := 1) rfl
  have e2a := hb2.cell (i := 0) rfl
  have e2b := hb2.cell (i := 1) rfl
  have e3a := hb3.cell (i := 0) rfl
  have e3b := hb3.cell (i := 1) rfl
  have hm34 : m ≤ 34 := by rw [Hm.out]; exact len_of_top hy
  have hneg : Hid (sgn (!t) y.natAbs = -y) := by
    show _ = _
    rw [sgn_int, Ht.out]; simp
  go_enter Tryz.func63, Tryz.ntmps63
  go_wp2_with fail
  rw [← Hw0.out]
  refine (both_any B B' _ _ x y w0 ⟨s, A, n, c, rfl, Hs, Hn, hl.up hup0, hc, hN⟩ ⟨t, C, m, d, rfl, Ht, Hm, hm.up hup0, hd, hN'⟩ hx hy).mono ?_
  rintro e w1 ⟨rfl, hup1⟩
  have g1 := hup1.keep e1a
  have g2 := hup1.keep e1b
  have g3 := hup1.keep e2a
  have g4 := hup1.keep e2b
  go_wp2_with fail
  have hupA : Up w0 w1.drew := hup1.drew
  have HSA := hide (Nat.le_trans hsz0 hupA.size)
  go_region_held3 (fun w' => w'.cell? ⟨w.heap.size, 0, none⟩ = some (.bool s) ∧ w'.cell? ⟨w.heap.size, 1, none⟩ = some (.slice A n c) ∧ w'.cell? ⟨w.heap.size + 1, 0, none⟩ = some (.bool t) ∧ w'.cell? ⟨w.heap.size + 1, 1, none⟩ = some (.slice C m d))
    (first | (exact ⟨hupA.keep e1a, hupA.keep e1b, hupA.keep e2a, hupA.keep e2b⟩) | (exact ⟨((hb1.up hupA).far2 (by omega) _ _).cell (i := 0) rfl, ((hb1.up hupA).far2 (by omega) _ _).cell (i := 1) rfl, ((hb2.up hupA).far2 (by omega) _ _).cell (i := 0) rfl, ((hb2.up hupA).far2 (by omega) _ _).cell (i := 1) rfl⟩))
    (first
      | (go_at_call 86; refine (signedI 0 (!t) C d m y.natAbs _ (hm.up (hup0.trans hupA)) Hm (by omega) hd (fun _ _ => Nat.zero_le _)).mono ?_; rintro e w3 ⟨⟨v3, rfl, hv3⟩, hup3⟩; replace hupA := hupA.trans hup3; rw [hneg.out] at hv3)
      | (go_at_call 92; refine (sum_any 0 0 _ _ x (-y) _ ⟨s, A, n, c, rfl, Hs, Hn, hl.up (hup0.trans hupA), hc, fun _ _ => Nat.zero_le _⟩ hv3 hx (by omega)).mono ?_; rintro e w2 ⟨v2, rfl, hv2, hup2⟩; replace hupA := hupA.trans hup2; rw [show x + -y = x - y by omega] at hv2; rw [show x + -y = x - y by omega]; obtain ⟨s2, A2, n2, c2, rfl, Hs2, Hn2, hl2, hc2, hnew2⟩ := hv2; have hb4 := hb3.up hupA; have f1 := hb4.cell (i := 0) rfl; have f2 := hb4.cell (i := 1) rfl; have f3 := hb4.frozen 0; have f4 := hb4.frozen 1))
  have hq := hb4.two (.bool s2) (.slice A2 n2 c2)
  have hnew3 : NewB (w.heap.size + 1 + 1 + 1) A2 := hnew2.mono (by have h1 := HSA.out; have h2 := hup3.size; omega)
  go_wp2
  refine bodyPost_ret (v := .tuple #[.agg #[.bool s2, .slice A2 n2 c2], .int .i64 (bndE (x - y))]) (by simp [results, Tryz.results63, go_sem, hq.1, hq.2]) rfl ⟨_, rfl, ⟨s2, A2, n2, c2, rfl, Hs2, Hn2, hl2.two hnew3 _ _, hc2, hnew3.mono (by omega)⟩, (hup0.trans hupA).two (by omega) _ _⟩

set_option maxRecDepth 100000 in
set_option maxHeartbeats 4000000 in
theorem mulI_any (B B' : Nat) (v v' : Value) (x y : Int) (w : World) (hv : IsInt B w v x) (hv' : IsInt B' w v' y) (hx : x.natAbs < top300) (hy : y.natAbs < top300) :
    Calls Tryz.prog 69 #[v, v'] w (RetIntE w (x * y)) := by
  obtain ⟨s, A, n, c, rfl, Hs, Hn, hl, hc, hN⟩ := hv
  obtain ⟨t, C, m, d, rfl, Ht, Hm, hm, hd, hN'⟩ := hv'
  obtain ⟨w0, hw0⟩ : ∃ w0, w0 = (((w.alloc (.cells #[.bool s, .slice A n c] 24)).alloc (.cells #[.bool t, .slice C m d] 24)).alloc (.cells #[.bool false, .slice none 0 0] 24)) := ⟨_, rfl⟩
  have hb1 : Bk w0 (w.heap.size) 24 #[.bool s, .slice A n c] := by
    have := ((Bk.new w 24 #[.bool s, .slice A n c]).alloc (.cells #[.bool t, .slice C m d] 24)).alloc (.cells #[.bool false, .slice none 0 0] 24)
    rw [hw0]; simpa using this
  have hb2 : Bk w0 (w.heap.size + 1) 24 #[.bool t, .slice C m d] := by
    have := (Bk.new (w.alloc (.cells #[.bool s, .slice A n c] 24)) 24 #[.bool t, .slice C m d]).alloc (.cells #[.bool false, .slice none 0 0] 24)
    rw [hw0]; simpa using this
  have hb3 : Bk w0 (w.heap.size + 1 + 1) 24 #[.bool false, .slice none 0 0] := by
    have := Bk.new ((w.alloc (.cells #[.bool s, .slice A n c] 24)).alloc (.cells #[.bool t, .slice C m d] 24)) 24 #[.bool false, .slice none 0 0]
    rw [hw0]; simpa using this
  have hup0 : Up w w0 := by rw [hw0]; exact (((Up.refl w).alloc _).alloc _).alloc _
  have hsz0 : w.heap.size + 3 ≤ w0.heap.size := by rw [hw0]; simp
  have Hw0 := hide hw0
  clear hw0
  have e1a := hb1.cell (i := 0) rfl
  have e1b := hb1.cell (i := 1) rfl
  have e2a := hb2.cell (i := 0) rfl
  have e2b := hb2.cell (i := 1) rfl
  have e3a := hb3.cell (i := 0) rfl
  have e3b := hb3.cell (i := 1) rfl
  have hn34 : n ≤ 34 := by rw [Hn.out]; exact len_of_top hx
  have hm34 : m ≤ 34 := by rw [Hm.out]; exact len_of_top hy
  have hsum := hide (sgn_mul Hs Ht)
  have hlen := hide (mul_small hx hy)
  go_enter Tryz.func69, Tryz.ntmps69
  go_wp2_with fail
  rw [← Hw0.out]
  refine (both_any B B' _ _ x y w0 ⟨s, A, n, c, rfl, Hs, Hn, hl.up hup0, hc, hN⟩ ⟨t, C, m, d, rfl, Ht, Hm, hm.up hup0, hd, hN'⟩ hx hy).mono ?_
  rintro e w1 ⟨rfl, hup1⟩
  have g1 := hup1.keep e1a
  have g2 := hup1.keep e1b
  have g3 := hup1.keep e2a
  have g4 := hup1.keep e2b
  go_wp2_with fail
  have hupA : Up w0 w1.drew := hup1.drew
  have HSA := hide (Nat.le_trans hsz0 hupA.size)
  go_region_held3 (fun w' => w'.cell? ⟨w.heap.size, 0, none⟩ = some (.bool s) ∧ w'.cell? ⟨w.heap.size, 1, none⟩ = some (.slice A n c) ∧ w'.cell? ⟨w.heap.size + 1, 0, none⟩ = some (.bool t) ∧ w'.cell? ⟨w.heap.size + 1, 1, none⟩ = some (.slice C m d))
    (first | (exact ⟨hupA.keep e1a, hupA.keep e1b, hupA.keep e2a, hupA.keep e2b⟩) | (exact ⟨((hb1.up hupA).far2 (by omega) _ _).cell (i := 0) rfl, ((hb1.up hupA).far2 (by omega) _ _).cell (i := 1) rfl, ((hb2.up hupA).far2 (by omega) _ _).cell (i := 0) rfl, ((hb2.up hupA).far2 (by omega) _ _).cell (i := 1) rfl⟩))
    (first
      | (go_at_call 106; refine (times_any A C c d x.natAbs y.natAbs _ (hl.up (hup0.trans hupA)) (hm.up (hup0.trans hupA)) n m Hn Hm (by omega) (by omega)).mono ?_; rintro e w3 ⟨A1, n1, c1, rfl, Hn1, hl1, hc1, hnew1, hup3⟩; replace hupA := hupA.trans hup3)
      | (go_at_call 105; refine (bounded_any (w.heap.size + 1 + 1 + 1) (s != t) A1 c1 n1 (x.natAbs * y.natAbs) _ hl1 Hn1 (by rw [Hn1.out]; have := hlen.out; omega) hc1 (hnew1.mono HSA.out)).mono ?_; rintro e w2 ⟨⟨v2, rfl, hv2⟩, hup2⟩; replace hupA := hupA.trans hup2; rw [hsum.out] at hv2; rw [hsum.out]; obtain ⟨s2, A2, n2, c2, rfl, Hs2, Hn2, hl2, hc2, hnew2⟩ := hv2; have hb4 := hb3.up hupA; have f1 := hb4.cell (i := 0) rfl; have f2 := hb4.cell (i := 1) rfl; have f3 := hb4.frozen 0; have f4 := hb4.frozen 1))
  have hq := hb4.two (.bool s2) (.slice A2 n2 c2)
  go_wp2
  refine bodyPost_ret (v := .tuple #[.agg #[.bool s2, .slice A2 n2 c2], .int .i64 (bndE (x * y))]) (by simp [results, Tryz.results69, go_sem, hq.1, hq.2]) rfl ⟨_, rfl, ⟨s2, A2, n2, c2, rfl, Hs2, Hn2, hl2.two hnew2 _ _, hc2, hnew2.mono (by omega)⟩, (hup0.trans hupA).two (by omega) _ _⟩

end Go.Proofs.YtldifgfpecicnaaGreatDoor
