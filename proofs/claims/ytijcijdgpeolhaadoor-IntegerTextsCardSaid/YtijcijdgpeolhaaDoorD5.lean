/- The program's Valid and what it calls. -/
import Derived.Test.YtijcijdgpeolhaaDoorD4
namespace Go.Proofs.YtijcijdgpeolhaaDoor
open Go.RowKit

/-- Every number is a limb of the base. -/
def digB (l : List Nat) : Bool := l.all fun x => decide (x < 1000000000)
theorem digB_iff {l : List Nat} : digB l = true ↔ Dig l := by simp [digB, Dig]
theorem digB_take_succ (l : List Nat) {k : Nat} (h : k < l.length) : digB (l.take (k + 1)) = (digB (l.take k) && decide (l.getD k 0 < 1000000000)) := by
  rw [take_snoc_getD l h]; simp [digB]
theorem digB_of_get {l : List Nat} {k : Nat} (_h : k < l.length) (hx : ¬ l.getD k 0 < 1000000000) : digB l = false := by
  rw [Bool.eq_false_iff]
  intro hd
  exact hx (dig_getD (digB_iff.1 hd) k)
/-- An index, at or above 0 just where some number is too wide. -/
def RetIdx (w : World) (l : List Nat) (e : Ending) (w' : World) : Prop := ∃ r : Int, e = .returned (.int .i64 r) ∧ (0 ≤ r ↔ digB l = false) ∧ w = w'

set_option maxHeartbeats 1000000 in
theorem idx_any (A : Option Addr) (c n : Nat) (l : List Nat) (w : World) (h : Lim w A l) (hw : W32 l) (Hn : Hid (n = l.length)) (hn : n ≤ 9223372036854775807) :
    Calls Tryd.prog 56 #[.slice A n c, .func (.func 38) #[] #[]] w (RetIdx w l) := by
  go_enter Tryd.func56, Tryd.ntmps56
  go_wp2
  go_loop [8] (fun iv => ∃ k : Nat, iv = .int .i64 k ∧ k ≤ n ∧ digB (l.take k) = true) (fun iv => n - (intOf iv).toNat)
  case atStart => exact ⟨0, rfl, by omega, rfl⟩
  case round =>
    obtain ⟨k, rfl, hk, hd⟩ := hrel
    have HD := hide hd
    clear hd
    by_cases hgo : k < n
    · obtain ⟨ad, rfl, hb, hcell⟩ := h.at_ (k := k) (by rw [← Hn.out]; exact hgo)
      have hx := W32.getD hw k
      obtain ⟨x, Hx⟩ : ∃ x, Hid (x = l.getD k 0) := ⟨_, rfl⟩
      rw [← Hx.out] at hcell hx
      by_cases hwide : x < 1000000000
      · have hdec : decide ((1000000000 : Int) ≤ (x : Int)) = false := by rw [decide_eq_false_iff_not]; omega
        go_wp2_with (go_at_call 38; refine (wide_any x _ hx).mono ?_; rintro e w' ⟨rfl, rfl⟩)
        go_round
        case rel => exact ⟨k + 1, by go_num, by omega, by rw [digB_take_succ l (by rw [← Hn.out]; exact hgo), HD.out, ← Hx.out]; simp; omega⟩
        case measure => simp [intOf]; omega
      · have hdec : decide ((1000000000 : Int) ≤ (x : Int)) = true := by rw [decide_eq_true_iff]; omega
        have HW := hide hwide
        clear hwide
        go_wp2_with (go_at_call 38; refine (wide_any x _ hx).mono ?_; rintro e w' ⟨rfl, rfl⟩)
        go_ret
        exact ⟨_, rfl, by simp [digB_of_get (l := l) (k := k) (by rw [← Hn.out]; exact hgo) (by rw [← Hx.out]; exact HW.out)], rfl⟩
    · obtain rfl : k = n := by omega
      have hd := HD.out
      rw [Hn.out, List.take_length] at hd
      have HD2 := hide hd
      clear hd
      go_wp2
      go_ret
      exact ⟨_, rfl, by simp [HD2.out], rfl⟩

set_option maxHeartbeats 1000000 in
theorem contains_any (A : Option Addr) (c n : Nat) (l : List Nat) (w : World) (h : Lim w A l) (hw : W32 l) (Hn : Hid (n = l.length)) (hn : n ≤ 9223372036854775807) :
    Calls Tryd.prog 37 #[.slice A n c, .func (.func 38) #[] #[]] w fun e w' => e = .returned (.bool (!digB l)) ∧ w = w' := by
  go_enter Tryd.func37, Tryd.ntmps37
  go_wp2_with fail
  refine (idx_any A c n l _ h hw Hn hn).mono ?_
  rintro e w' ⟨r, rfl, hr, rfl⟩
  have HR := hide hr
  clear hr
  go_wp2
  go_ret
  refine ⟨?_, rfl⟩
  have h1 := HR.out
  refine (ret_bool (?_ : decide ((0 : Int) ≤ r) = !digB l))
  cases hd : digB l
  · rw [hd] at h1; simp; exact h1.2 rfl
  · rw [hd] at h1; simp at h1 ⊢; exact h1

/-- Whether a raw integer is valid. -/
def rawValid (s : Bool) (l : List Nat) : Bool := if l.length = 0 then !s else decide (l.getD (l.length - 1) 0 ≠ 0) && decide (digs l ≤ 300) && digB l

set_option maxHeartbeats 2000000 in
theorem valid_any (s : Bool) (A : Option Addr) (c n : Nat) (l : List Nat) (w : World) (h : Lim w A l) (hw : W32 l) (Hn : Hid (n = l.length)) (hn : n ≤ 1000000) :
    Calls Tryd.prog 15 #[.agg #[.bool s, .slice A n c]] w fun e w' => e = .returned (.bool (rawValid s l)) ∧ Up w w' := by
  have hl1 := h.up ((Up.refl w).alloc (.cells #[.bool s, .slice A n c] 25))
  by_cases hz : n = 0
  · subst hz
    have HR : Hid (rawValid s l = !s) := by show _ = _; unfold rawValid; rw [if_pos (by rw [← Hn.out])]
    go_enter Tryd.func15, Tryd.ntmps15
    go_wp2
    go_ret
    exact ⟨by rw [HR.out]; rfl, (Up.refl w).alloc _⟩
  · obtain ⟨n, rfl⟩ : ∃ k, n = k + 1 := ⟨n - 1, by omega⟩
    have HR : Hid (rawValid s l = (decide (l.getD n 0 ≠ 0) && decide (digs l ≤ 300) && digB l)) := by
      show _ = _; unfold rawValid; rw [if_neg (by rw [← Hn.out]; omega), ← Hn.out]; rfl
    obtain ⟨ad, rfl, hb, hcell⟩ := hl1.at_ (k := n) (by rw [← Hn.out]; omega)
    have hdg := digs_le _ hw
    rw [← Hn.out] at hdg
    obtain ⟨d, Hd⟩ : ∃ d, Hid (d = digs l) := ⟨_, rfl⟩
    rw [← Hd.out] at hdg HR
    obtain ⟨x, Hx⟩ : ∃ x, Hid (x = l.getD n 0) := ⟨_, rfl⟩
    rw [← Hx.out] at hcell HR
    have hcx : ∀ o, (w.alloc o).cell? (ad.add n) = some (.int .u32 (x : Int)) := by
      intro o
      obtain ⟨ad', he, _, hc'⟩ := (h.up ((Up.refl w).alloc o)).at_ (k := n) (by rw [← Hn.out]; omega)
      cases he
      rw [hc', Hx.out]
    by_cases hx0 : x = 0
    · have hxb : ((x : Int) != 0) = false := by rw [hx0]; rfl
      have HR2 : Hid (rawValid s l = false) := by show _ = _; rw [HR.out, hx0]; simp
      clear hx0
      go_enter Tryd.func15, Tryd.ntmps15
      go_wp2
      go_ret
      exact ⟨by rw [HR2.out]; rfl, (Up.refl w).alloc _⟩
    · have hxb : ((x : Int) != 0) = true := by rw [bne_iff_ne]; omega
      by_cases hd3 : d ≤ 300
      · have hdb : decide ((d : Int) ≤ 300) = true := by rw [decide_eq_true_iff]; omega
        have HR2 : Hid (rawValid s l = digB l) := by show _ = _; rw [HR.out]; simp [hx0, hd3]
        clear hx0
        go_enter Tryd.func15, Tryd.ntmps15
        go_wp2_with fail
        refine (digits_any (some ad) c l _ hl1 hw (n + 1) Hn (by omega)).mono ?_
        rintro e w' ⟨rfl, rfl⟩
        rw [← Hd.out]
        go_wp2_with fail
        refine (contains_any (some ad) c (n + 1) l _ hl1 hw Hn (by omega)).mono ?_
        rintro e w' ⟨rfl, rfl⟩
        go_wp2
        go_ret
        exact ⟨by rw [HR2.out, ← Bool.not_not (digB l)]; rfl, (Up.refl w).alloc _⟩
      · have hdb : decide ((d : Int) ≤ 300) = false := by rw [decide_eq_false_iff_not]; omega
        have HR2 : Hid (rawValid s l = false) := by show _ = _; rw [HR.out]; simp [hd3]
        clear hx0
        go_enter Tryd.func15, Tryd.ntmps15
        go_wp2_with fail
        refine (digits_any (some ad) c l _ hl1 hw (n + 1) Hn (by omega)).mono ?_
        rintro e w' ⟨rfl, rfl⟩
        rw [← Hd.out]
        go_wp2
        go_ret
        exact ⟨by rw [HR2.out]; rfl, (Up.refl w).alloc _⟩
end Go.Proofs.YtijcijdgpeolhaaDoor
