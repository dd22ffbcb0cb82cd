/- The program's commonWord and divide. -/
import Derived.Test.YtijcijdgpeolhaaDoorE3
namespace Go.Proofs.YtijcijdgpeolhaaDoor
open Go.RowKit

set_option maxHeartbeats 1000000 in
theorem word_any (a b : Nat) (w : World) (ha : a ≤ 18446744073709551615) (hb : b ≤ 18446744073709551615) :
    Calls Tryd.prog 60 #[.int .u64 a, .int .u64 b] w fun e w' => e = .returned (.int .u64 (Nat.gcd a b : Nat)) ∧ ∃ q, w' = w.drewN q := by
  go_enter Tryd.func60, Tryd.ntmps60
  go_wp2
  go_loopw [0, 1] (fun av bv wr => ∃ p g q : Nat, av = .int .u64 p ∧ bv = .int .u64 g ∧ p ≤ 18446744073709551615 ∧ g ≤ 18446744073709551615 ∧ Nat.gcd p g = Nat.gcd a b ∧ wr = w.drewN q) (fun _ bv _ => (intOf bv).toNat)
  case atStart => exact ⟨a, b, 0, rfl, rfl, ha, hb, rfl, rfl⟩
  case round =>
    obtain ⟨p, g, q, rfl, rfl, hp, hg, hgcd, rfl⟩ := hrel
    have HG := hide hgcd
    clear hgcd
    by_cases hgo : 0 < g
    · have hm : (p : Int).tmod (g : Int) = ((p % g : Nat) : Int) := rfl
      have HM := hide (Nat.mod_lt p hgo)
      have HR : Hid (Nat.gcd g (p % g) = Nat.gcd a b) := by show _ = _; rw [← HG.out, Nat.gcd_comm p, Nat.gcd_rec g p, Nat.gcd_comm]
      have hz : ((g : Int) == 0) = false := by rw [beq_eq_false_iff_ne]; omega
      obtain ⟨r, hr⟩ : ∃ r, r = p % g := ⟨_, rfl⟩
      rw [← hr] at hm HM HR
      have hrb : r ≤ 18446744073709551615 := by have := HM.out; omega
      clear hr
      go_wp2
      go_quiet (fail)
      go_wp2
      go_roundw
      case rel => exact ⟨g, r, _, rfl, by first | rfl | go_num, hg, hrb, HR.out, by rw [World.drewN_drewN]⟩
      case measure => have := HM.out; simp [intOf]; omega
    · obtain rfl : g = 0 := by omega
      have HE : Hid (p = Nat.gcd a b) := by show _ = _; rw [← HG.out, Nat.gcd_zero_right]
      go_wp2
      go_ret
      exact ⟨by rw [← HE.out]; rfl, _, rfl⟩

/-- What is asked of long. -/
def LongSaid : Prop := ∀ (A B : Option Addr) (ca cb a b n m : Nat) (w : World), Lim w A (lim a) → Lim w B (lim b) → Hid (n = (lim a).length) → Hid (m = (lim b).length) → n ≤ 1000 → 2 ≤ m → m ≤ n → b ≤ a → n ≤ ca → m ≤ cb →
  Calls Tryd.prog 59 #[.slice A n ca, .slice B m cb] w (RetLim2 w (a / b) (a % b))
theorem getD_one {b : Nat} (h : (lim b).length = 1) : (lim b).getD 0 0 = b := by
  have h2 := val_lim b
  match hl : lim b, h with
  | [x], _ => rw [hl] at h2; simp [val] at h2; simpa using h2

set_option maxHeartbeats 2000000 in
theorem divide_any (A B : Option Addr) (ca cb a b : Nat) (w : World) (hA : Lim w A (lim a)) (hB : Lim w B (lim b)) (n m : Nat) (Hn : Hid (n = (lim a).length)) (Hm : Hid (m = (lim b).length)) (hn : n ≤ 1000) (hm : m ≤ 1000) (hca : n ≤ ca) (hcb : m ≤ cb) (hb0 : 0 < b) (HL : 2 ≤ m → LongSaid) :
    Calls Tryd.prog 42 #[.slice A n ca, .slice B m cb] w (RetLim2 w (a / b) (a % b)) := by
  have hm0 : 0 < m := by rw [Hm.out]; exact Nat.pos_of_ne_zero fun e => by rw [lim_len_zero] at e; omega
  rcases Nat.lt_or_ge a b with hlt | hge
  · have hc0 := cmpN_lt hlt
    have HQ := hide (Nat.div_eq_of_lt hlt)
    have HR := hide (Nat.mod_eq_of_lt hlt)
    clear hlt
    go_enter Tryd.func42, Tryd.ntmps42
    go_wp2_with fail
    refine (compare_any A B ca cb a b _ hA hB n m Hn Hm (by omega) (by omega)).mono ?_
    rintro e w' ⟨rfl, q, rfl⟩
    rw [hc0]
    clear hc0
    have hup0 : Up w (w.drewN q) := (Up.refl w).drewN q
    go_wp2_with fail
    refine (clone_any A ca n (lim a) _ (hA.up hup0) Hn (by omega)).mono ?_
    rintro e w1 ⟨v1, n1, rfl, Hn1, hown1, hup1⟩
    obtain ⟨A1, c1, rfl, hc1, hl1, hnew1⟩ := hown1.lim
    go_wp2
    go_ret2
    refine ⟨none, 0, 0, A1, n1, c1, rfl, ?_, ?_, by rw [HQ.out, lim_zero]; exact Lim.nil _ _, by rw [HR.out]; exact hl1, Nat.le_refl _, hc1, NewB.none_ _, hnew1, hup0.trans hup1⟩
    · show _ = _; rw [HQ.out, lim_zero]; rfl
    · rw [HR.out]; exact Hn1
  · have hc0 : ¬ cmpN a b < 0 := by unfold cmpN; rw [if_neg (by omega)]; split <;> omega
    obtain ⟨z, hz⟩ : ∃ z, z = cmpN a b := ⟨_, rfl⟩
    rw [← hz] at hc0
    have HZ := hide hz
    have HGE := hide hge
    clear hge hz
    by_cases hm1 : m = 1
    · subst hm1
      have Hb := hide (getD_one Hm.out.symm)
      have hbB : b < 1000000000 := by rw [← Hb.out]; exact dig_getD (dig_lim b) 0
      obtain ⟨bd, rfl, hbb, hcell⟩ := hB.at_ (k := 0) (by rw [← Hm.out]; omega)
      rw [Hb.out, show bd.add 0 = bd by simp [Addr.add]] at hcell
      go_enter Tryd.func42, Tryd.ntmps42
      go_wp2_with fail
      refine (compare_any A (some bd) ca cb a b _ hA hB n 1 Hn Hm (by omega) (by omega)).mono ?_
      rintro e w' ⟨rfl, q, rfl⟩
      rw [← HZ.out]
      have hup0 : Up w (w.drewN q) := (Up.refl w).drewN q
      go_wp2_with fail
      refine (short_any A ca n a b _ (hA.up hup0) Hn (by omega) hb0 hbB).mono ?_
      rintro e w1 ⟨A1, n1, c1, A2, n2, c2, rfl, Hn1, Hn2, hl1, hl2, hc1, hc2, hnew1, hnew2, hup1⟩
      go_wp2
      go_ret2
      exact ⟨A1, n1, c1, A2, n2, c2, rfl, Hn1, Hn2, hl1, hl2, hc1, hc2, hnew1, hnew2, hup0.trans hup1⟩
    · have hmb : ((m : Int) == 1) = false := by rw [beq_eq_false_iff_ne]; omega
      go_enter Tryd.func42, Tryd.ntmps42
      go_wp2_with fail
      refine (compare_any A B ca cb a b _ hA hB n m Hn Hm (by omega) (by omega)).mono ?_
      rintro e w' ⟨rfl, q, rfl⟩
      rw [← HZ.out]
      have hup0 : Up w (w.drewN q) := (Up.refl w).drewN q
      go_wp2_with fail
      refine (HL (by omega) A B ca cb a b n m _ (hA.up hup0) (hB.up hup0) Hn Hm (by omega) (by omega) (by rw [Hn.out, Hm.out]; exact lim_len_mono HGE.out) HGE.out hca hcb).mono ?_
      rintro e w1 ⟨A1, n1, c1, A2, n2, c2, rfl, Hn1, Hn2, hl1, hl2, hc1, hc2, hnew1, hnew2, hup1⟩
      go_wp2
      go_ret2
      exact ⟨A1, n1, c1, A2, n2, c2, rfl, Hn1, Hn2, hl1, hl2, hc1, hc2, hnew1, hnew2, hup0.trans hup1⟩
end Go.Proofs.YtijcijdgpeolhaaDoor
