/- The program's guess: three limbs over two. -/
import Derived.Test.YtnelnobcecnhlaaK1
namespace Go.Proofs.Ytnelnobcecnhlaa
open Go.RowKit

theorem g_more {q f r t s2 w0 p : Nat} (h : q * f + r = t) (hp : p = q * s2) (hlt : r * 1000000000 + w0 < p) : t * 1000000000 + w0 < q * (f * 1000000000 + s2) := by
  rw [Nat.mul_add, ← hp, ← Nat.mul_assoc, ← h, Nat.add_mul]
  rw [Nat.add_assoc]
  exact Nat.add_lt_add_left hlt _
theorem g_done {q f r t s2 w0 p : Nat} (h : q * f + r = t) (hp : p = q * s2) (hge : p ≤ r * 1000000000 + w0) : q * (f * 1000000000 + s2) ≤ t * 1000000000 + w0 := by
  rw [Nat.mul_add, ← hp, ← Nat.mul_assoc, ← h, Nat.add_mul]
  rw [Nat.add_assoc]
  exact Nat.add_le_add_left hge _
theorem g_bound {t f w2 w1 : Nat} (ht : t = w2 * 1000000000 + w1) (h1 : w1 < 1000000000) (h2 : w2 ≤ f) (h3 : 1 ≤ f) : t / f ≤ 2000000000 := by
  have h5 : w2 * 1000000000 ≤ f * 1000000000 := Nat.mul_le_mul_right _ h2
  have h6 : 1 * 1000000000 ≤ f * 1000000000 := Nat.mul_le_mul_right _ h3
  have h7 : t < 2000000000 * f := by
    rw [ht, show 2000000000 * f = f * 1000000000 + f * 1000000000 by rw [← Nat.mul_add, Nat.mul_comm]]
    omega
  exact Nat.le_of_lt ((Nat.div_lt_iff_lt_mul (show 0 < f by omega)).2 h7)
theorem g_start {t f w0 s2 : Nat} (h3 : 1 ≤ f) (hw0 : w0 < 1000000000) : (t * 1000000000 + w0) / (f * 1000000000 + s2) ≤ t / f := by
  have hD : 0 < f * 1000000000 + s2 := by omega
  have h1 : (t * 1000000000 + w0) / (f * 1000000000 + s2) * (f * 1000000000 + s2) ≤ t * 1000000000 + w0 := Nat.div_mul_le_self _ _
  generalize (t * 1000000000 + w0) / (f * 1000000000 + s2) = q at h1 ⊢
  refine (Nat.le_div_iff_mul_le (by omega)).2 ?_
  rw [Nat.mul_add, ← Nat.mul_assoc] at h1
  generalize q * f = z at h1 ⊢
  generalize q * s2 = y at h1
  omega
/-- What guess returns. -/
def RetU64 (w : World) (x : Nat) (e : Ending) (w' : World) : Prop := e = .returned (.int .u64 (x : Nat)) ∧ ∃ q, w' = w.drewN q
set_option maxRecDepth 100000 in
set_option maxHeartbeats 4000000 in
theorem guess_any (A B : Option Addr) (cw cb k f s2 w2 w1 w0 : Nat) (wl bl : List Nat) (w : World) (hA : Lim w A wl) (hB : Lim w B bl) (HA : Hid (k + 3 = wl.length)) (HB : Hid (k + 2 = bl.length)) (hk : k ≤ 2000)
    (Hf : Hid (f = bl.getD (k + 1) 0)) (Hs : Hid (s2 = bl.getD k 0)) (H2 : Hid (w2 = wl.getD (k + 2) 0)) (H1 : Hid (w1 = wl.getD (k + 1) 0)) (H0 : Hid (w0 = wl.getD k 0))
    (hf : f < 1000000000) (hs : s2 < 1000000000) (hw2 : w2 < 1000000000) (hw1 : w1 < 1000000000) (hw0 : w0 < 1000000000) (hf1 : 1 ≤ f) (h2f : w2 ≤ f) :
    Calls Try.prog 79 #[.slice A (k + 3 : Nat) cw, .slice B (k + 2 : Nat) cb] w (RetU64 w (((w2 * 1000000000 + w1) * 1000000000 + w0) / (f * 1000000000 + s2))) := by
  obtain ⟨ad, rfl, hb1, a2⟩ := hA.at_ (k := k + 2) (by rw [← HA.out]; omega)
  obtain ⟨ad', e', _, a1⟩ := hA.at_ (k := k + 1) (by rw [← HA.out]; omega)
  cases e'
  obtain ⟨ad', e', _, a0⟩ := hA.at_ (k := k) (by rw [← HA.out]; omega)
  cases e'
  obtain ⟨bd, rfl, hb2, b1⟩ := hB.at_ (k := k + 1) (by rw [← HB.out]; omega)
  obtain ⟨bd', e', _, b0⟩ := hB.at_ (k := k) (by rw [← HB.out]; omega)
  cases e'
  rw [← H2.out] at a2
  rw [← H1.out] at a1
  rw [← H0.out] at a0
  rw [← Hf.out] at b1
  rw [← Hs.out] at b0
  rw [show ad.add (k + 2) = ⟨ad.block, ad.off + (k + 2), none⟩ by simp [Addr.add]] at a2
  rw [show ad.add (k + 1) = ⟨ad.block, ad.off + (k + 1), none⟩ by simp [Addr.add]] at a1
  rw [show bd.add (k + 1) = ⟨bd.block, bd.off + (k + 1), none⟩ by simp [Addr.add]] at b1
  obtain ⟨t, Ht⟩ : ∃ t, Hid (t = w2 * 1000000000 + w1) := ⟨_, rfl⟩
  have HtI : Hid ((w2 : Int) * 1000000000 + (w1 : Int) = (t : Int)) := by show _ = _; rw [Ht.out]; simp
  have htb : t ≤ 1000000000000000000 := by rw [Ht.out]; omega
  have HQB := hide (g_bound Ht.out hw1 h2f hf1)
  have HQS := hide (g_start (t := t) (s2 := s2) hf1 hw0)
  rw [← Ht.out]
  obtain ⟨R, HR⟩ : ∃ R, Hid (R = (t * 1000000000 + w0) / (f * 1000000000 + s2)) := ⟨_, rfl⟩
  rw [← HR.out] at HQS ⊢
  have HDM := hide (Nat.div_add_mod t f)
  have HML := hide (Nat.mod_lt t (show 0 < f by omega))
  obtain ⟨q0, Hq0⟩ : ∃ q, Hid (q = t / f) := ⟨_, rfl⟩
  obtain ⟨r0, Hr0⟩ : ∃ r, Hid (r = t % f) := ⟨_, rfl⟩
  have HqI : Hid ((t : Int).tdiv (f : Int) = (q0 : Int)) := by show _ = _; rw [Hq0.out]; rfl
  have HrI : Hid ((t : Int).tmod (f : Int) = (r0 : Int)) := by show _ = _; rw [Hr0.out]; rfl
  rw [← Hq0.out, ← Hr0.out] at HDM
  rw [← Hr0.out] at HML
  rw [← Hq0.out] at HQB HQS
  clear hA hB hb1 hb2
  have i1 : IntKind.i64.wrap ((k : Int) + 2 - 1) = (k : Int) + 1 := by rw [IntKind.wrap_i64]; omega
  have i2 : IntKind.i64.wrap ((k : Int) + 2 - 2) = (k : Int) := by rw [IntKind.wrap_i64]; omega
  have i3 : ((k : Int) + 1).toNat = k + 1 := by omega
  have i4 : (0 : Int) ≤ (k : Int) + 1 := by omega
  have I1 := hide i1
  have I2 := hide i2
  have I3 := hide i3
  go_enter Try.func79, Try.ntmps79
  go_wp2
  go_quiet (fail)
  go_wp2
  go_quiet (fail)
  clear i1 i2 i3 i4
  go_wp2_with fail
  rw [HtI.out]
  have hqI := HqI.out
  have hrI := HrI.out
  have hz : ((f : Int) == 0) = false := by rw [beq_eq_false_iff_ne]; omega
  have hq0b : q0 ≤ 2000000000 := HQB.out
  have hr0b : r0 < 1000000000 := Nat.lt_of_lt_of_le HML.out (by omega)
  go_quiet (fail)
  clear hqI hrI
  go_wp2
  go_loopw [9, 10] (fun lv ov wr => ∃ (q r n : Nat), lv = .int .u64 q ∧ ov = .int .u64 r ∧ q ≤ 2000000000 ∧ r < 3000000000 ∧ q * f + r = t ∧ R ≤ q ∧ wr = w.drewN n) (fun lv _ _ => (intOf lv).toNat)
  case atStart => exact ⟨q0, r0, _, rfl, rfl, hq0b, by omega, by have := HDM.out; rw [Nat.mul_comm]; exact this, HQS.out, by rw [World.drewN_drewN, World.drewN_drewN]⟩
  case round =>
    obtain ⟨q, r, n, rfl, rfl, hq, hr, hqr, hRq, rfl⟩ := hrel
    have HQR := hide hqr
    have HRQ := hide hRq
    clear hqr hRq hq0b hr0b
    obtain ⟨p, Hp⟩ : ∃ p, Hid (p = q * s2) := ⟨_, rfl⟩
    have hxy : (q : Int) * (s2 : Int) = (p : Int) := by rw [Hp.out]; simp
    have hp : p ≤ 2000000000000000000 := by rw [Hp.out]; exact Nat.le_trans (Nat.mul_le_mul hq (show s2 ≤ 1000000000 by omega)) (by decide)
    by_cases hgo : r * 1000000000 + w0 < p
    · have hgoI : decide ((r : Int) * 1000000000 + (w0 : Int) < (p : Int)) = true := by simp; omega
      have HM := hide (g_more HQR.out Hp.out hgo)
      have hq1 : 1 ≤ q := by
        rcases Nat.eq_zero_or_pos q with h | h
        · have := Hp.out; rw [h, Nat.zero_mul] at this; omega
        · exact h
      have hr2 : r < 2000000000 := by omega
      clear hgo
      go_wp2
      go_roundw
      case rel =>
        refine ⟨q - 1, r + f, n, by first | go_num | (congr 1; omega), by first | go_num | (congr 1; omega), by omega, by omega, ?_, ?_, rfl⟩
        · have := HQR.out; obtain ⟨j, rfl⟩ : ∃ j, q = j + 1 := ⟨q - 1, by omega⟩; rw [Nat.add_mul] at this; rw [Nat.add_sub_cancel]; omega
        · have h1 := HM.out
          rw [HR.out]
          have h2 := (Nat.div_lt_iff_lt_mul (show 0 < f * 1000000000 + s2 by omega)).2 h1
          omega
      case measure => simp [intOf]; omega
    · have hgoI : decide ((r : Int) * 1000000000 + (w0 : Int) < (p : Int)) = false := by simp; omega
      have HM := hide (g_done HQR.out Hp.out (Nat.le_of_not_lt hgo))
      have HE : Hid (q = R) := by
        have h1 := HRQ.out
        have h2 := (Nat.le_div_iff_mul_le (show 0 < f * 1000000000 + s2 by omega)).2 HM.out
        rw [← HR.out] at h2
        show q = R
        omega
      clear hgo
      go_wp2
      go_ret
      exact ⟨by rw [← HE.out]; rfl, _, rfl⟩
end Go.Proofs.Ytnelnobcecnhlaa
