/- The reference's Cmp, Gcd. -/
import Derived.Test.YtijcijdgpeolhaaDoorA3
import Derived.Test.YtijcijdgpeolhaaDoorC4
import Derived.Deep.RegionWith
namespace Go.Proofs.YtijcijdgpeolhaaDoor
open Go.RowKit

/-- A sign by a flag and a number of limbs. -/
def sgV (s : Bool) (n : Nat) : Int := if n = 0 then 0 else if s then -1 else 1
theorem rsignV_any (s : Bool) (A : Option Addr) (c n : Nat) (w : World) (hn : n ≤ 1000000) :
    Calls Tryd.prog 54 #[.agg #[.bool s, .slice A n c]] w fun e w' => e = .returned (.int .i64 (sgV s n)) ∧ Up w w' := rsign_any s A c n w hn
theorem sgV_int {s : Bool} {n : Nat} {x : Int} (Hs : Hid (s = decide (x < 0))) (Hn : Hid (n = (lim x.natAbs).length)) : sgV s n = x.sign := by
  have h1 := Hs.out
  have h2 := Hn.out
  unfold sgV
  by_cases h0 : x = 0
  · subst h0; simp [lim_zero] at h2; rw [if_pos h2]; rfl
  · have hn : n ≠ 0 := by rw [h2]; intro e; rw [lim_len_zero] at e; omega
    rw [if_neg hn, h1]
    by_cases h : x < 0
    · simp [h, Int.sign_eq_neg_one_of_neg h]
    · simp [h, Int.sign_eq_one_of_pos (show 0 < x by omega)]
/-- -1, 0 or 1 as x is less than, equal to or greater than y. -/
def cmpZ (x y : Int) : Int := if x < y then -1 else if y < x then 1 else 0

set_option maxHeartbeats 4000000 in
theorem rcmpI_any (B B' : Nat) (v v' : Value) (x y : Int) (w : World) (hv : IsInt B w v x) (hv' : IsInt B' w v' y) (hx : x.natAbs < top300) (hy : y.natAbs < top300) :
    Calls Tryd.prog 34 #[v, v'] w fun e w' => e = .returned (.int .i64 (cmpZ x y)) ∧ Up w w' := by
  obtain ⟨s, A, n, c, rfl, Hs, Hn, hl, hc, _⟩ := hv
  obtain ⟨t, C, m, d, rfl, Ht, Hm, hm, hd, _⟩ := hv'
  have hn34 : n ≤ 34 := by rw [Hn.out]; exact len_of_top hx
  have hm34 : m ≤ 34 := by rw [Hm.out]; exact len_of_top hy
  obtain ⟨w0, hw0⟩ : ∃ w0, w0 = ((w.alloc (.cells #[.bool s, .slice A n c] 25)).alloc (.cells #[.bool t, .slice C m d] 25)) := ⟨_, rfl⟩
  have hb1 : Bk w0 (w.heap.size) 25 #[.bool s, .slice A n c] := by
    have := (Bk.new w 25 #[.bool s, .slice A n c]).alloc (.cells #[.bool t, .slice C m d] 25)
    rw [hw0]; simpa using this
  have hb2 : Bk w0 (w.heap.size + 1) 25 #[.bool t, .slice C m d] := by
    have := Bk.new (w.alloc (.cells #[.bool s, .slice A n c] 25)) 25 #[.bool t, .slice C m d]
    rw [hw0]; simpa using this
  have hup0 : Up w w0 := by rw [hw0]; exact ((Up.refl w).alloc _).alloc _
  have hsz0 : w.heap.size + 2 ≤ w0.heap.size := by rw [hw0]; simp
  have Hw0 := hide hw0
  clear hw0
  have e1a := hb1.cell (i := 0) rfl
  have e1b := hb1.cell (i := 1) rfl
  have e2a := hb2.cell (i := 0) rfl
  have e2b := hb2.cell (i := 1) rfl
  have HX := hide (sgV_int Hs Hn)
  have HY := hide (sgV_int Ht Hm)
  by_cases hne : x.sign = y.sign
  · have hq : (sgV s n != sgV t m) = false := by rw [HX.out, HY.out, hne]; simp
    obtain ⟨k, hk⟩ : ∃ k, k = cmpN x.natAbs y.natAbs := ⟨_, rfl⟩
    have HK := hide hk
    have HR : Hid (sgV s n * k = cmpZ x y ∧ (sgV s n = -1 ∨ sgV s n = 0 ∨ sgV s n = 1) ∧ (k = -1 ∨ k = 0 ∨ k = 1)) := by
      show _ ∧ _ ∧ _
      rw [HX.out, hk]
      have h3 : cmpN x.natAbs y.natAbs = -1 ∨ cmpN x.natAbs y.natAbs = 0 ∨ cmpN x.natAbs y.natAbs = 1 := by unfold cmpN; (repeat' split) <;> simp
      rcases Int.lt_trichotomy x 0 with h | h | h
      · have hy0 : y < 0 := by rw [Int.sign_eq_neg_one_of_neg h] at hne; exact Int.neg_of_sign_eq_neg_one hne.symm
        rw [Int.sign_eq_neg_one_of_neg h]
        refine ⟨?_, by simp, h3⟩
        unfold cmpZ cmpN
        by_cases h4 : x < y
        · rw [if_pos h4, if_neg (by omega), if_pos (by omega)]; rfl
        · by_cases h5 : y < x
          · rw [if_neg h4, if_pos h5, if_pos (by omega)]; rfl
          · rw [if_neg h4, if_neg h5, if_neg (by omega), if_neg (by omega)]; rfl
      · subst h
        have hy0 : y = 0 := by simp at hne; exact Int.sign_eq_zero_iff_zero.1 hne.symm
        subst hy0
        exact ⟨rfl, by simp, h3⟩
      · have hy0 : 0 < y := by rw [Int.sign_eq_one_of_pos h] at hne; exact Int.pos_of_sign_eq_one hne.symm
        rw [Int.sign_eq_one_of_pos h]
        refine ⟨?_, by simp, h3⟩
        unfold cmpZ cmpN
        by_cases h4 : x < y
        · rw [if_pos h4, if_pos (by omega)]; rfl
        · by_cases h5 : y < x
          · rw [if_neg h4, if_pos h5, if_neg (by omega), if_pos (by omega)]; rfl
          · rw [if_neg h4, if_neg h5, if_neg (by omega), if_neg (by omega)]; rfl
    clear hk hne
    obtain ⟨r, hr⟩ : ∃ r, r = cmpZ x y := ⟨_, rfl⟩
    rw [← hr] at HR ⊢
    clear hr
    have hb1' := HR.out.2.1
    have hb2' := HR.out.2.2
    have hw : IntKind.i64.wrap (sgV s n * k) = r := by
      rw [← HR.out.1]
      rcases hb1' with h | h | h <;> rcases hb2' with h' | h' | h' <;> rw [h, h'] <;> rfl
    clear hb1' hb2'
    go_enter Tryd.func34, Tryd.ntmps34
    go_wp2_with fail
    rw [← Hw0.out]
    have hupA : Up w0 w0.drew := (Up.refl w0).drew
    go_region_held3 (fun w' => w'.cell? ⟨w.heap.size, 0, none⟩ = some (.bool s) ∧ w'.cell? ⟨w.heap.size, 1, none⟩ = some (.slice A n c) ∧ w'.cell? ⟨w.heap.size + 1, 0, none⟩ = some (.bool t) ∧ w'.cell? ⟨w.heap.size + 1, 1, none⟩ = some (.slice C m d))
      (first | (exact ⟨hupA.keep e1a, hupA.keep e1b, hupA.keep e2a, hupA.keep e2b⟩))
      (first | (go_at_call 54; refine (rsignV_any _ _ _ _ _ (by omega)).mono ?_; rintro e w1 ⟨rfl, hup1⟩; replace hupA := hupA.trans hup1))
    all_goals
      replace hupA := hupA.drew
      go_wp2_with fail
      go_region_held3 (fun w' => w'.cell? ⟨w.heap.size, 0, none⟩ = some (.bool s) ∧ w'.cell? ⟨w.heap.size, 1, none⟩ = some (.slice A n c) ∧ w'.cell? ⟨w.heap.size + 1, 0, none⟩ = some (.bool t) ∧ w'.cell? ⟨w.heap.size + 1, 1, none⟩ = some (.slice C m d))
        (first | (exact ⟨hupA.keep e1a, hupA.keep e1b, hupA.keep e2a, hupA.keep e2b⟩))
        (first | (go_at_call 54; refine (rsignV_any _ _ _ _ _ (by omega)).mono ?_; rintro e w1 ⟨rfl, hup1⟩; replace hupA := hupA.trans hup1) | (go_at_call 55; refine (rcmp_any A C c d x.natAbs y.natAbs _ (hl.up (hup0.trans hupA)) (hm.up (hup0.trans hupA)) n m Hn Hm (by omega) (by omega)).mono ?_; rintro e w1 ⟨rfl, q, rfl⟩; rw [← HK.out]; replace hupA := hupA.drewN q))
    all_goals
      go_wp2
      go_ret
      exact ⟨by rw [← hw]; rfl, hup0.trans hupA⟩
  · have hq : (sgV s n != sgV t m) = true := by rw [HX.out, HY.out, bne_iff_ne]; exact hne
    by_cases hlt : x < y
    · have hq2 : sgV s n < sgV t m := by
        rw [HX.out, HY.out]
        rcases Int.lt_trichotomy x 0 with h | h | h <;> rcases Int.lt_trichotomy y 0 with h' | h' | h' <;> first | omega | (simp_all [Int.sign_eq_neg_one_of_neg, Int.sign_eq_one_of_pos])
      have HR : Hid (cmpZ x y = -1) := by show cmpZ x y = -1; unfold cmpZ; rw [if_pos hlt]
      clear hne hlt
      go_enter Tryd.func34, Tryd.ntmps34
      go_wp2_with fail
      rw [← Hw0.out]
      have hupA : Up w0 w0.drew := (Up.refl w0).drew
      go_region_held3 (fun w' => w'.cell? ⟨w.heap.size, 0, none⟩ = some (.bool s) ∧ w'.cell? ⟨w.heap.size, 1, none⟩ = some (.slice A n c) ∧ w'.cell? ⟨w.heap.size + 1, 0, none⟩ = some (.bool t) ∧ w'.cell? ⟨w.heap.size + 1, 1, none⟩ = some (.slice C m d))
        (first | (exact ⟨hupA.keep e1a, hupA.keep e1b, hupA.keep e2a, hupA.keep e2b⟩))
        (first | (go_at_call 54; refine (rsignV_any _ _ _ _ _ (by omega)).mono ?_; rintro e w1 ⟨rfl, hup1⟩; replace hupA := hupA.trans hup1))
      all_goals
        replace hupA := hupA.drew
        go_wp2_with fail
        go_region_held3 (fun w' => w'.cell? ⟨w.heap.size, 0, none⟩ = some (.bool s) ∧ w'.cell? ⟨w.heap.size, 1, none⟩ = some (.slice A n c) ∧ w'.cell? ⟨w.heap.size + 1, 0, none⟩ = some (.bool t) ∧ w'.cell? ⟨w.heap.size + 1, 1, none⟩ = some (.slice C m d))
          (first | (exact ⟨hupA.keep e1a, hupA.keep e1b, hupA.keep e2a, hupA.keep e2b⟩))
          (first | (go_at_call 54; refine (rsignV_any _ _ _ _ _ (by omega)).mono ?_; rintro e w1 ⟨rfl, hup1⟩; replace hupA := hupA.trans hup1))
      all_goals
        go_wp2
        go_ret
        exact ⟨by rw [HR.out]; rfl, hup0.trans hupA⟩
    · have hgt : y < x := by
        rcases Int.lt_trichotomy x y with h | h | h
        · exact absurd h hlt
        · rw [h] at hne; exact absurd rfl hne
        · exact h
      have hq2 : ¬ sgV s n < sgV t m := by
        rw [HX.out, HY.out]
        rcases Int.lt_trichotomy x 0 with h | h | h <;> rcases Int.lt_trichotomy y 0 with h' | h' | h' <;> first | omega | (simp_all [Int.sign_eq_neg_one_of_neg, Int.sign_eq_one_of_pos])
      have HR : Hid (cmpZ x y = 1) := by show cmpZ x y = 1; unfold cmpZ; rw [if_neg hlt, if_pos hgt]
      clear hne hlt hgt
      go_enter Tryd.func34, Tryd.ntmps34
      go_wp2_with fail
      rw [← Hw0.out]
      have hupA : Up w0 w0.drew := (Up.refl w0).drew
      go_region_held3 (fun w' => w'.cell? ⟨w.heap.size, 0, none⟩ = some (.bool s) ∧ w'.cell? ⟨w.heap.size, 1, none⟩ = some (.slice A n c) ∧ w'.cell? ⟨w.heap.size + 1, 0, none⟩ = some (.bool t) ∧ w'.cell? ⟨w.heap.size + 1, 1, none⟩ = some (.slice C m d))
        (first | (exact ⟨hupA.keep e1a, hupA.keep e1b, hupA.keep e2a, hupA.keep e2b⟩))
        (first | (go_at_call 54; refine (rsignV_any _ _ _ _ _ (by omega)).mono ?_; rintro e w1 ⟨rfl, hup1⟩; replace hupA := hupA.trans hup1))
      all_goals
        replace hupA := hupA.drew
        go_wp2_with fail
        go_region_held3 (fun w' => w'.cell? ⟨w.heap.size, 0, none⟩ = some (.bool s) ∧ w'.cell? ⟨w.heap.size, 1, none⟩ = some (.slice A n c) ∧ w'.cell? ⟨w.heap.size + 1, 0, none⟩ = some (.bool t) ∧ w'.cell? ⟨w.heap.size + 1, 1, none⟩ = some (.slice C m d))
          (first | (exact ⟨hupA.keep e1a, hupA.keep e1b, hupA.keep e2a, hupA.keep e2b⟩))
          (first | (go_at_call 54; refine (rsignV_any _ _ _ _ _ (by omega)).mono ?_; rintro e w1 ⟨rfl, hup1⟩; replace hupA := hupA.trans hup1))
      all_goals
        go_wp2
        go_ret
        exact ⟨by rw [HR.out]; rfl, hup0.trans hupA⟩

end Go.Proofs.YtijcijdgpeolhaaDoor
