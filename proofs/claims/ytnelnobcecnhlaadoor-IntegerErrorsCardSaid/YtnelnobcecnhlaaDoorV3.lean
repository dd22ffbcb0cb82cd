/- Raw integers that are not valid: the reference's Valid, the program's Sign, bothValid, Cmp. -/
import Derived.Test.YtnelnobcecnhlaaDoorD6
import Derived.Test.YtnelnobcecnhlaaDoorA2
namespace Go.Proofs.YtnelnobcecnhlaaDoor
open Go.RowKit

/-- What is known of a raw integer in memory. -/
def Raw (w : World) (v : Value) (s : Bool) (l : List Nat) : Prop := ∃ A n c, v = .agg #[.bool s, .slice A n c] ∧ Lim w A l ∧ Hid (n = l.length) ∧ n ≤ c
theorem Raw.up {w w' : World} {v : Value} {s : Bool} {l : List Nat} (h : Raw w v s l) (hu : Up w w') : Raw w' v s l := by
  obtain ⟨A, n, c, rfl, h1, h2, h3⟩ := h
  exact ⟨A, n, c, rfl, h1.up hu, h2, h3⟩
/-- A raw integer that is valid is an integer. -/
theorem raw_int {s : Bool} {l : List Nat} (h : rawValid s l = true) : ∃ z : Int, z.natAbs < top300 ∧ s = decide (z < 0) ∧ l = lim z.natAbs := by
  unfold rawValid at h
  by_cases h0 : l.length = 0
  · rw [if_pos h0] at h
    rw [List.length_eq_zero_iff] at h0
    refine ⟨0, by have := bas_pos 33; simp [top300]; omega, by simpa using h, by rw [h0]; simp [lim_zero]⟩
  · rw [if_neg h0] at h
    simp only [Bool.and_eq_true, decide_eq_true_eq] at h
    obtain ⟨⟨h1, h2⟩, h3⟩ := h
    have hd := digB_iff.1 h3
    have hv : lim (val l) = l := lim_val hd fun x hx => by
      rw [getLast_getD (fun e => h0 (by rw [e]; rfl))] at hx
      have := Option.some.inj hx
      rw [← this]; exact h1
    have h4 := (digs_raw hd h1).1 h2
    have h5 : val l ≠ 0 := fun e => h0 (by rw [← hv, e, lim_zero]; rfl)
    exact ⟨sgn s (val l), by rw [sgn_abs]; exact h4, (sgn_neg h5).symm, by rw [sgn_abs]; exact hv.symm⟩
theorem Raw.int {w : World} {v : Value} {s : Bool} {l : List Nat} (h : Raw w v s l) (hr : rawValid s l = true) : ∃ z : Int, z.natAbs < top300 ∧ IsInt 0 w v z := by
  obtain ⟨A, n, c, rfl, h1, h2, h3⟩ := h
  obtain ⟨z, hz, hs, hl⟩ := raw_int hr
  subst hl
  exact ⟨z, hz, s, A, n, c, rfl, hs, h2, h1, h3, fun _ _ => Nat.zero_le _⟩
theorem digB_all {l : List Nat} {n : Nat} (hn : n = l.length) : digB (l.take n) = digB l := by rw [hn, List.take_length]

set_option maxRecDepth 100000 in
set_option maxHeartbeats 2000000 in
theorem rvalid_raw (s : Bool) (A : Option Addr) (c n : Nat) (l : List Nat) (w : World) (h : Lim w A l) (hw : W32 l) (Hn : Hid (n = l.length)) (hn : n ≤ 1000000) :
    Calls Tryd.prog 18 #[.agg #[.bool s, .slice A n c]] w fun e w' => e = .returned (.bool (rawValid s l)) ∧ Up w w' := by
  obtain ⟨w0, hw0⟩ : ∃ w0, w0 = (w.alloc (.cells #[.bool s, .slice A n c] 25)) := ⟨_, rfl⟩
  have hb1 : Bk w0 (w.heap.size) 25 #[.bool s, .slice A n c] := by
    have := Bk.new w 25 #[.bool s, .slice A n c]
    rw [hw0]; simpa using this
  have hup0 : Up w w0 := by rw [hw0]; exact (Up.refl w).alloc _
  have hsz0 : w.heap.size + 1 ≤ w0.heap.size := by rw [hw0]; simp
  have Hw0 := hide hw0
  clear hw0
  have e1a := hb1.cell (i := 0) rfl
  have e1b := hb1.cell (i := 1) rfl
  have hl0 := h.up hup0
  go_enter Tryd.func18, Tryd.ntmps18
  go_wp2
  rw [← Hw0.out]
  go_loop [3] (fun iv => ∃ k : Nat, iv = .int .i64 k ∧ k ≤ n ∧ digB (l.take k) = true) (fun iv => n - (intOf iv).toNat)
  case atStart => exact ⟨0, rfl, by omega, rfl⟩
  case round =>
    obtain ⟨k, rfl, hk, hd⟩ := hrel
    have HD := hide hd
    clear hd
    by_cases hgo : k < n
    · obtain ⟨ad, rfl, hb, hcell⟩ := hl0.at_ (k := k) (by rw [← Hn.out]; exact hgo)
      have hx := W32.getD hw k
      obtain ⟨x, Hx⟩ : ∃ x, Hid (x = l.getD k 0) := ⟨_, rfl⟩
      rw [← Hx.out] at hx hcell
      by_cases hwide : 1000000000 ≤ x
      · have HR : Hid (rawValid s l = false) := by
          have h1 := digB_of_get (l := l) (k := k) (by rw [← Hn.out]; exact hgo) (by rw [← Hx.out]; omega)
          show _ = _
          unfold rawValid
          rw [if_neg (by rw [← Hn.out]; omega), h1]; simp
        have hwideI : decide ((1000000000 : Int) ≤ (x : Int)) = true := by simp; omega
        clear hwide
        go_wp2
        go_ret
        exact ⟨by rw [HR.out]; rfl, hup0⟩
      · have HD2 : Hid (digB (l.take (k + 1)) = true) := by
          show _ = _
          rw [digB_take_succ l (by rw [← Hn.out]; exact hgo), HD.out, ← Hx.out]; simp; omega
        have hwideI : decide ((1000000000 : Int) ≤ (x : Int)) = false := by simp; omega
        clear hwide
        go_wp2
        go_round
        case rel => exact ⟨k + 1, by go_num, by omega, HD2.out⟩
        case measure => simp [intOf]; omega
    · obtain rfl : k = n := by omega
      have HDl : Hid (digB l = true) := by show _ = _; rw [← digB_all Hn.out]; exact HD.out
      clear HD hgo hk
      by_cases hz : k = 0
      · subst hz
        have HR : Hid (rawValid s l = !s) := by show _ = _; unfold rawValid; rw [if_pos (by rw [← Hn.out])]
        go_wp2
        go_ret
        exact ⟨by rw [HR.out]; rfl, hup0⟩
      · obtain ⟨m, rfl⟩ : ∃ m, k = m + 1 := ⟨k - 1, by omega⟩
        obtain ⟨ad, rfl, hb, hcell⟩ := hl0.at_ (k := m) (by rw [← Hn.out]; omega)
        have hx := W32.getD hw m
        have HR : Hid (rawValid s l = (decide (l.getD m 0 ≠ 0) && decide (digs l ≤ 300))) := by
          show _ = _
          unfold rawValid
          rw [if_neg (by rw [← Hn.out]; omega), HDl.out, ← Hn.out]; simp
        have hdg := digs_le _ hw
        rw [← Hn.out] at hdg
        obtain ⟨d, Hd⟩ : ∃ d, Hid (d = digs l) := ⟨_, rfl⟩
        obtain ⟨x, Hx⟩ : ∃ x, Hid (x = l.getD m 0) := ⟨_, rfl⟩
        rw [← Hx.out] at hx hcell HR
        rw [← Hd.out] at hdg HR
        by_cases hx0 : x = 0
        · subst hx0
          go_wp2
          go_ret
          exact ⟨by rw [HR.out]; rfl, hup0⟩
        · have hxb : ((x : Int) != 0) = true := by rw [bne_iff_ne]; omega
          have HX0 : Hid (decide (x ≠ 0) = true) := by show _ = _; simp [hx0]
          go_wp2_with fail
          refine (rdigits_any (some ad) c l _ hl0 hw (m + 1) Hn hn).mono ?_
          rintro e w1 ⟨rfl, rfl⟩
          rw [← Hd.out]
          by_cases h300 : d ≤ 300
          all_goals
            go_wp2
            go_ret
            exact ⟨by rw [HR.out, HX0.out]; simp; omega, hup0⟩

set_option maxHeartbeats 1000000 in
theorem both_bad (s t : Bool) (A C : Option Addr) (c d n m : Nat) (l k : List Nat) (w : World) (h : Lim w A l) (h' : Lim w C k) (hw : W32 l) (hw' : W32 k) (Hn : Hid (n = l.length)) (Hm : Hid (m = k.length)) (hn : n ≤ 1000000) (hm : m ≤ 1000000) (hbad : Hid (rawValid s l = false ∨ rawValid t k = false)) :
    Calls Tryd.prog 46 #[.agg #[.bool s, .slice A n c], .agg #[.bool t, .slice C m d]] w fun e w' => e = .returned (.bool false) ∧ Up w w' := by
  rcases Bool.eq_false_or_eq_true (rawValid s l) with hr | hr
  · have HR := hide hr
    have HR2 : Hid (rawValid t k = false) := by
      rcases hbad.out with e | e
      · rw [hr] at e; cases e
      · exact e
    clear hr
    obtain ⟨w0, hw0⟩ : ∃ w0, w0 = ((w.alloc (.cells #[.bool s, .slice A n c] 25)).alloc (.cells #[.bool t, .slice C m d] 25)) := ⟨_, rfl⟩
    have hb1 : Bk w0 (w.heap.size) 25 #[.bool s, .slice A n c] := by
      have := (Bk.new w 25 #[.bool s, .slice A n c]).alloc (.cells #[.bool t, .slice C m d] 25)
      rw [hw0]; simpa using this
    have hb2 : Bk w0 (w.heap.size + 1) 25 #[.bool t, .slice C m d] := by
      have := Bk.new (w.alloc (.cells #[.bool s, .slice A n c] 25)) 25 #[.bool t, .slice C m d]
      rw [hw0]; simpa using this
    have hup0 : Up w w0 := by rw [hw0]; exact ((Up.refl w).alloc _).alloc _
    have hsz0 : w.heap.size + 2 ≤ w0.heap.size := by rw [hw0]; simp
    have Hw0 := hide hw0
    clear hw0
    have e1a := hb1.cell (i := 0) rfl
    have e1b := hb1.cell (i := 1) rfl
    have e2a := hb2.cell (i := 0) rfl
    have e2b := hb2.cell (i := 1) rfl
    go_enter Tryd.func46, Tryd.ntmps46
    go_wp2_with fail
    rw [← Hw0.out]
    refine (valid_any s A c n l _ (h.up hup0) hw Hn hn).mono ?_
    rintro e w1 ⟨rfl, hup1⟩
    rw [HR.out]
    have g1 := hup1.keep e2a
    have g2 := hup1.keep e2b
    go_wp2_with fail
    refine (valid_any t C d m k _ (h'.up (hup0.trans hup1)) hw' Hm hm).mono ?_
    rintro e w2 ⟨rfl, hup2⟩
    rw [HR2.out]
    go_wp2
    go_ret
    exact ⟨rfl, (hup0.trans hup1).trans hup2⟩
  · have HR := hide hr
    clear hr
    obtain ⟨w0, hw0⟩ : ∃ w0, w0 = ((w.alloc (.cells #[.bool s, .slice A n c] 25)).alloc (.cells #[.bool t, .slice C m d] 25)) := ⟨_, rfl⟩
    have hb1 : Bk w0 (w.heap.size) 25 #[.bool s, .slice A n c] := by
      have := (Bk.new w 25 #[.bool s, .slice A n c]).alloc (.cells #[.bool t, .slice C m d] 25)
      rw [hw0]; simpa using this
    have hb2 : Bk w0 (w.heap.size + 1) 25 #[.bool t, .slice C m d] := by
      have := Bk.new (w.alloc (.cells #[.bool s, .slice A n c] 25)) 25 #[.bool t, .slice C m d]
      rw [hw0]; simpa using this
    have hup0 : Up w w0 := by rw [hw0]; exact ((Up.refl w).alloc _).alloc _
    have hsz0 : w.heap.size + 2 ≤ w0.heap.size := by rw [hw0]; simp
    have Hw0 := hide hw0
    clear hw0
    have e1a := hb1.cell (i := 0) rfl
    have e1b := hb1.cell (i := 1) rfl
    have e2a := hb2.cell (i := 0) rfl
    have e2b := hb2.cell (i := 1) rfl
    go_enter Tryd.func46, Tryd.ntmps46
    go_wp2_with fail
    rw [← Hw0.out]
    refine (valid_any s A c n l _ (h.up hup0) hw Hn hn).mono ?_
    rintro e w1 ⟨rfl, hup1⟩
    rw [HR.out]
    go_wp2
    go_ret
    exact ⟨rfl, hup0.trans hup1⟩

end Go.Proofs.YtnelnobcecnhlaaDoor
