/- The reference's division of limbs by bisection. -/
import Derived.Test.YtnelnobcecnhlaaB2
import Derived.Test.YtnelnobcecnhlaaBase3
import Derived.Test.YtnelnobcecnhlaaMath4
namespace Go.Proofs.Ytnelnobcecnhlaa
open Go.RowKit

/-- Two new rows of limbs. -/
def RetLim2 (w : World) (q r : Nat) (e : Ending) (w' : World) : Prop :=
  ∃ A n c B m d, e = .returned (.tuple #[.slice A n c, .slice B m d]) ∧ Hid (n = (lim q).length) ∧ Hid (m = (lim r).length) ∧ Lim w' A (lim q) ∧ Lim w' B (lim r) ∧ n ≤ c ∧ m ≤ d ∧ NewB w.heap.size A ∧ NewB w.heap.size B ∧ Up w w'

theorem rtrim_lim (A : Option Addr) (c : Nat) (o : List Nat) (w : World) (h : Lim w A o) (n r : Nat) (hn : o.length = n) (hd : Dig o) (hv : val o = r) (hl : n ≤ 1000000) (hc : n ≤ c) :
    Calls Try.prog 63 #[.slice A n c] w fun e w' => (∃ n', e = .returned (.slice A n' c) ∧ Hid (n' = (lim r).length) ∧ Lim w' A (lim r) ∧ n' ≤ c) ∧ w = w' :=
  (rtrim_any A c o w h n hn.symm hl hc).mono fun e w' ⟨he, hw⟩ => by
    subst he
    subst hw
    subst hn
    subst hv
    exact ⟨⟨_, rfl, keep_len hd, by rw [← trim_lim hd]; exact h.take _, Nat.le_trans (keep_le _ _) hc⟩, rfl⟩

set_option maxHeartbeats 4000000 in
theorem rdiv_any (A B : Option Addr) (ca cb a b : Nat) (w : World) (hA : Lim w A (lim a)) (hB : Lim w B (lim b)) (n m : Nat) (Hn : Hid (n = (lim a).length)) (Hm : Hid (m = (lim b).length)) (hn : n ≤ 10000) (hm : m ≤ 10000) (hb0 : 0 < b) :
    Calls Try.prog 55 #[.slice A n ca, .slice B m cb] w (RetLim2 w (a / b) (a % b)) := by
  go_enter Try.func55, Try.ntmps55
  go_wp2_with (at_make; refine wp_mk rfl _ _ rfl w.heap.size n _ _ _ _ rfl rfl rfl rfl (by omega) (Nat.le_refl _) ?_; intro w0 hown0 hup0 hlt0)
  go_wp2
  go_loopw [7, 8] (fun rv iv wr => ∃ (k : Nat) (j : Int) (r l c : Nat) (A' : Option Addr) (ql : List Nat), k ≤ n ∧ iv = .int .i64 j ∧ j + 1 = k ∧ rv = .slice A' l c ∧ l ≤ c ∧ l = (lim r).length ∧ Lim wr A' (lim r) ∧ NewB (w.heap.size + 1) A' ∧
      Own wr w.heap.size (.slice (some ⟨w.heap.size, 0, none⟩) n n) n ql ∧ Dig ql ∧ (∀ i, i < k → ql.getD i 0 = 0) ∧ r < b ∧ val ((lim a).drop k) = val (ql.drop k) * b + r ∧ Up w wr ∧ w.heap.size < wr.heap.size) (fun _ iv _ => (intOf iv + 1).toNat)
  case atStart =>
    refine ⟨n, _, 0, 0, 0, none, List.replicate n 0, by omega, rfl, by omega, rfl, by omega, by simp [lim_zero], by simp [lim_zero, Lim.nil], NewB.none_ _, hown0, dig_replicate n, (fun i _ => by simp [List.getD, List.getElem?_replicate]; split <;> rfl), hb0, ?_, hup0, hlt0⟩
    rw [List.drop_eq_nil_of_le (by rw [← Hn.out]; omega), List.drop_eq_nil_of_le (by simp)]; simp [val]
  case round =>
    clear hown0 hup0 hlt0
    obtain ⟨k, j, r, l, c, A', ql, hk, rfl, hj, rfl, hlc, hl, hlim, hnew, hown, hdq, hz, hrb, hv, hup, hlt⟩ := hrel
    have HZ := hide hz
    clear hz
    have HL := Lib.hid hl
    have HV := Lib.hid hv
    clear hl hv
    by_cases hpos : 0 < k
    · obtain ⟨k, rfl⟩ : ∃ k', k = k' + 1 := ⟨k - 1, by omega⟩
      obtain rfl : j = (k : Int) := by omega
      clear hj hpos
      obtain ⟨ad, rfl, hb, hcell⟩ := (hA.up hup).at_ (k := k) (by rw [← Hn.out]; omega)
      have hx := dig_getD (dig_lim a) k
      obtain ⟨x, Hx⟩ : ∃ x, Hid (x = (lim a).getD k 0) := ⟨_, rfl⟩
      rw [← Hx.out] at hx hcell
      have hlm : l ≤ 10000 := by
        have := lim_len_mono (Nat.le_of_lt hrb)
        have h1 := HL.out
        have h2 := Hm.out
        omega
      have HAV : Hid (val ((lim a).drop k) = x + 1000000000 * val ((lim a).drop (k + 1))) := by
        show _ = _
        rw [val_drop_step _ (by rw [← Hn.out]; omega), ← Hx.out]
      have hql := hown.len
      have HQL := hide hql
      clear hql
      have hown1 : Own (wr.alloc (.cells #[.int .u32 (x : Int)] 52)) wr.heap.size (.slice (some ⟨wr.heap.size, 0, none⟩) 1 1) 1 [x] := Own.lit wr [x] _ (by omega) (by omega) rfl rfl
      have hlim1 := hlim.up ((Up.refl wr).alloc (.cells #[.int .u32 (x : Int)] 52))
      go_wp2_with (at_builtin; refine wp_app rfl _ _ rfl wr.heap.size (.slice (some ⟨wr.heap.size, 0, none⟩) 1 1) 1 [x] rfl hown1 A' l c (lim r) rfl HL.out.symm hlim1 (by omega) (by simp) ?_; intro v1 w1 hown2 hg1)
      have hup1 : Up wr w1 := ((Up.refl wr).alloc _).grown hg1 (fun k hk => by cases hk; exact Nat.le_refl _)
      obtain ⟨A1, c1, rfl, hc1, hlim2, hnew2⟩ := hown2.lim
      have hd1 : Dig ([x] ++ lim r) := fun y hy => by
        rcases List.mem_append.1 hy with h | h
        · simp at h; omega
        · exact dig_lim r y h
      have hv1 : val ([x] ++ lim r) = x + 1000000000 * r := by simp [val, val_lim]
      refine (rtrim_lim A1 c1 _ _ hlim2 (1 + l) _ hown2.len hd1 hv1 (by omega) hc1).mono ?_
      rintro e w2 ⟨⟨l2, rfl, HL2, hlim3, hc2⟩, rfl⟩
      have hown3 := hown.up hup1
      have hup3 := hup.trans hup1
      have hnew3 : NewB (w.heap.size + 1) A1 := hnew2.mono (by omega)
      have hl2 : l2 ≤ 10001 := by
        have h1 : (lim (x + 1000000000 * r)).length ≤ 1 + l := by
          rw [← hv1, ← hown2.len, lim_len_le]
          exact val_lt hd1
        rw [HL2.out]; omega
      have hlt2 : w.heap.size < w1.heap.size := by have := hup1.size; omega
      clear hown1 hlim1 hown2 hg1 hlim2 hd1 hv1 hup1 hown hup hlim hcell hb hlt hnew hnew2
      obtain ⟨t, Ht⟩ : ∃ t, Hid (t = x + 1000000000 * r) := ⟨_, rfl⟩
      rw [← Ht.out] at hlim3 HL2
      go_wp2_with fail
      refine (rcmp_any A1 B c1 cb t b _ hlim3 (hB.up hup3) l2 m HL2 Hm (by omega) (by omega)).mono ?_
      rintro e w3 ⟨rfl, q3, rfl⟩
      rcases Nat.lt_or_ge t b with htb | htb
      · have hcz : cmpN t b = -1 := cmpN_lt htb
        rw [hcz]
        clear hcz
        go_wp2
        go_roundw
        case rel =>
          refine ⟨k, (k : Int) - 1, t, l2, c1, A1, ql, by omega, rfl, by omega, rfl, hc2, HL2.out, hlim3, hnew3, hown3, hdq, (fun i hi => HZ.out i (by omega)), htb, ?_, hup3.drewN _, hlt2⟩
          rw [HAV.out, HV.out, val_drop_step ql (k := k) (by rw [HQL.out]; omega), HZ.out k (by omega), Ht.out, Nat.zero_add, Nat.mul_add, Nat.mul_assoc]
          omega
        case measure => simp [intOf]
      · have hcz : Hid (¬ cmpN t b < 0) := by show ¬ cmpN t b < 0; unfold cmpN; rw [if_neg (by omega)]; split <;> omega
        have hct : t < 1000000000 * b := by rw [Ht.out]; omega
        have hcz2 : ¬ cmpN t b < 0 := hcz.out
        have HCZ := hcz2
        obtain ⟨z, hz⟩ : ∃ z, z = cmpN t b := ⟨_, rfl⟩
        rw [← hz] at hcz2 ⊢
        clear hcz HCZ hz
        obtain ⟨w4, hw4⟩ : ∃ w4, w4 = w1.drewN q3 := ⟨_, rfl⟩
        have hup4 : Up w w4 := by rw [hw4]; exact hup3.drewN _
        have hlim4 : Lim w4 A1 (lim t) := by rw [hw4]; exact hlim3.up ((Up.refl w1).drewN _)
        have hown4 : Own w4 w.heap.size (.slice (some ⟨w.heap.size, 0, none⟩) n n) n ql := by rw [hw4]; exact hown3.up ((Up.refl w1).drewN _)
        have hlt4 : w.heap.size < w4.heap.size := by have := hup4.size; rw [hw4]; exact hlt2
        rw [← hw4]
        clear hw4 hup3 hlim3 hown3 hlt2
        go_wp2
        go_loopw [9, 10] (fun lo hi wr => ∃ (p h : Nat), lo = .int .u64 p ∧ hi = .int .u64 h ∧ 1 ≤ p ∧ p < h ∧ h ≤ 1000000000 ∧ p * b ≤ t ∧ t < h * b ∧ Up w4 wr) (fun lo hi _ => (intOf hi - intOf lo).toNat)
        case atStart => exact ⟨1, 1000000000, rfl, rfl, by omega, by omega, by omega, by omega, hct, Up.refl _⟩
        case round =>
          obtain ⟨p, h, rfl, rfl, hx1, hxy, hy, hxb, hyb, hup5⟩ := hrel
          have HXB := hide hxb
          have HYB := hide hyb
          clear hxb hyb
          by_cases hgo : 1 < h - p
          · obtain ⟨m2, Hm2⟩ : ∃ m2, Hid (m2 = (p + h) / 2) := ⟨_, rfl⟩
            have hm2 : p < m2 ∧ m2 < h := by have := Hm2.out; omega
            obtain ⟨hm3, hm4⟩ := hm2
            have hmi : ((p : Int) + (h : Int)) / 2 = (m2 : Int) := by rw [Hm2.out]; omega
            have hmb : Hid ((lim (bas 0 * (b * m2))).length ≤ 10001) := by
              show _ ≤ _
              rw [lim_len_le]
              have h1 : b < bas m := by rw [Hm.out]; exact lim_lt_bas b
              have h2 : b * m2 ≤ b * 1000000000 := Nat.mul_le_mul_left _ (by omega)
              have h3 : bas (m + 1) ≤ bas 10001 := bas_mono (by omega)
              have h4 : bas (m + 1) = 1000000000 * bas m := rfl
              have h5 : bas 0 = 1 := rfl
              rw [h5]
              omega
            go_wp2_with (go_at_call 69; refine (rtimes_any B cb b m2 0 _ ((hB.up hup4).up hup5) m Hm (by omega) (by omega) (by omega)).mono ?_; rintro e w6 ⟨A6, l6, c6, rfl, HL6, hlim6, hc6, _, hup6⟩)
            have hl6 : l6 ≤ 10001 := by rw [HL6.out]; exact hmb.out
            refine (rcmp_any A6 A1 c6 c1 _ t _ hlim6 ((hlim4.up hup5).up hup6) l6 l2 HL6 HL2 (by omega) (by omega)).mono ?_
            rintro e w7 ⟨rfl, q7, rfl⟩
            have hbm : bas 0 * (b * m2) = m2 * b := by show 1 * (b * m2) = _; rw [Nat.one_mul, Nat.mul_comm]
            rw [hbm]
            clear hbm
            rcases Nat.lt_or_ge t (m2 * b) with hc | hc
            · have hcg := cmpN_gt hc
              rw [hcg]
              clear hcg
              have HC := hide hc
              clear hc
              go_wp2
              go_roundw
              case rel => exact ⟨p, m2, rfl, by go_num, hx1, by omega, by omega, HXB.out, HC.out, (hup5.trans hup6).drewN _⟩
              case measure => simp [intOf]; omega
            · have hcg : Hid (cmpN (m2 * b) t ≤ 0) := by show cmpN (m2 * b) t ≤ 0; unfold cmpN; split <;> first | omega | (split <;> omega)
              have hcg2 := hcg.out
              obtain ⟨z2, hz2⟩ : ∃ z2, z2 = cmpN (m2 * b) t := ⟨_, rfl⟩
              rw [← hz2] at hcg2 ⊢
              clear hz2 hcg
              have HC := hide hc
              clear hc
              go_wp2
              go_roundw
              case rel => exact ⟨m2, h, by go_num, rfl, by omega, by omega, by omega, HC.out, HYB.out, (hup5.trans hup6).drewN _⟩
              case measure => simp [intOf]; omega
          · obtain rfl : h = p + 1 := by omega
            have hup7 := hup4.trans hup5
            have hown5 := hown4.up hup5
            have hlim5 := hlim4.up hup5
            have hfr := hown5.frozen k
            have hcell5 := hown5.cell (j := k) (by omega)
            have HD := hide (div_step hx hrb (q := p) (by rw [← Ht.out]; exact HXB.out) (by rw [← Ht.out]; exact HYB.out))
            have hpB := HD.out.1
            have hown8 := hown5.set_ k p
            have hup8 : Up w (wr.setCell ⟨w.heap.size, k, none⟩ (.int .u32 (p : Int))) := hup7.setCell (Nat.le_refl _) _
            have hlim8 : Lim (wr.setCell ⟨w.heap.size, k, none⟩ (.int .u32 (p : Int))) A1 (lim t) := hlim5.far hnew3 _
            have hB8 := hB.up hup8
            have hlt8 : w.heap.size < (wr.setCell ⟨w.heap.size, k, none⟩ (.int .u32 (p : Int))).heap.size := by have := hup5.size; simp; omega
            have hmb : Hid ((lim (bas 0 * (b * p))).length ≤ 10001) := by
              show _ ≤ _
              rw [show bas 0 * (b * p) = p * b by show 1 * (b * p) = _; rw [Nat.one_mul, Nat.mul_comm]]
              have := lim_len_mono HXB.out
              have := HL2.out
              omega
            have HBM : Hid (bas 0 * (b * p) = p * b) := by show 1 * (b * p) = _; rw [Nat.one_mul, Nat.mul_comm]
            clear hown4 hlim4 hlt4 hown5 hlim5 hup4 hup5
            go_wp2_with (go_at_call 69; refine (rtimes_any B cb b p 0 _ hB8 m Hm (by omega) (by omega) (by omega)).mono ?_; rintro e w6 ⟨A6, l6, c6, rfl, HL6, hlim6, hc6, _, hup6⟩)
            have hl6 : l6 ≤ 10001 := by rw [HL6.out]; exact hmb.out
            rw [HBM.out] at hlim6 HL6
            refine (rsub_any A1 A6 c1 c6 t (p * b) _ (hlim8.up hup6) hlim6 l2 l6 HL2 HL6 (by omega) HXB.out).mono ?_
            rintro e w7 ⟨A7, l7, c7, rfl, HL7, hlim7, hc7, hnew7, hup7'⟩
            go_wp2
            go_roundw
            case rel =>
              refine ⟨k, (k : Int) - 1, t - p * b, l7, c7, A7, ql.set k p, by omega, rfl, by omega, rfl, hc7, HL7.out, hlim7, hnew7.mono (Nat.le_trans hlt8 hup6.size), (hown8.up hup6).up hup7', dig_set hdq hpB,
                (fun i hi => by have h0 := HZ.out i (by omega); simpa [List.getD, List.getElem?_set, show ¬ k = i by omega] using h0), by rw [Ht.out]; exact HD.out.2, ?_, (hup8.trans hup6).trans hup7', Nat.lt_of_lt_of_le hlt8 (Nat.le_trans hup6.size hup7'.size)⟩
              rw [HAV.out, val_drop_set ql (by rw [HQL.out]; omega)]
              exact div_keep (by rw [Ht.out]) (by rw [← Ht.out]; exact HXB.out) HV.out
            case measure => simp [intOf]
    · obtain rfl : k = 0 := by omega
      obtain rfl : j = -1 := by omega
      obtain ⟨A1, c1, he1, hc1, hlim1, hnew1⟩ := hown.lim
      cases he1
      have HE := hide (div_end (a := a) (b := b) (q := val ql) (r := r) (by have := HV.out; simp only [List.drop_zero, val_lim] at this; exact this) hrb)
      go_wp2_with (go_at_call 63; refine (rtrim_lim _ n ql _ hlim1 n (a / b) hown.len hdq HE.out.1 (by omega) (Nat.le_refl _)).mono ?_; rintro e w2 ⟨⟨l2, rfl, HL2, hlim3, hc2⟩, rfl⟩)
      go_ret2
      refine ⟨_, l2, _, A', l, c, rfl, HL2, ?_, hlim3, ?_, hc2, hlc, hnew1, hnew.mono (by omega), hup⟩
      · rw [← HE.out.2]; exact HL
      · rw [← HE.out.2]; exact hlim
end Go.Proofs.Ytnelnobcecnhlaa
