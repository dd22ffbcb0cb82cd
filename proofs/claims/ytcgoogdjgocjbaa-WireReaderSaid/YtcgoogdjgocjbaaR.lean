/- Walks: the reference's reader. -/
import Derived.Test.YtcgoogdjgocjbaaJ
import Derived.Test.YtcgoogdjgocjbaaH
import Derived.RegionTactic
import Derived.Deep.RegionWith
import Derived.Deep.RegionHeld3
namespace Go.Proofs.Ytcgoogdjgocjbaa
open Go.RowKit

set_option maxRecDepth 1000000 in
set_option maxHeartbeats 4000000 in
theorem rrStr_any (s : ByteArray) (e : Nat) (w : World) (hs : s.size ≤ 100000) : Calls Try.prog 37 #[.agg #[.string s, .int .i64 (e : Nat)]] w fun e' w' => e' = .returned (.tuple #[.string (nv ⟨#[]⟩ gs s e), .agg #[.string (nx gs s e).1, .int .i64 ((nx gs s e).2 : Nat)]]) ∧ Up w w' := by
  by_cases he : e = 0
  · subst he
    have hcall := fun w => rgstr_any s w (by omega)
    unfold RetGs at hcall
    have hN : nx gs s 0 = if (gs s).2.2 ≠ 0 then (s, (gs s).2.2) else (s.extract (gs s).2.1 s.size, 0) := rfl
    have hV : nv ⟨#[]⟩ gs s 0 = if (gs s).2.2 ≠ 0 then ⟨#[]⟩ else (gs s).1 := rfl
    have hq := gs_out' s
    obtain ⟨y, hy⟩ : ∃ y, y = (gs s).1 := ⟨_, rfl⟩
    obtain ⟨q, hq1⟩ : ∃ q, q = (gs s).2.1 := ⟨_, rfl⟩
    obtain ⟨x, hx⟩ : ∃ x, x = (gs s).2.2 := ⟨_, rfl⟩
    rw [← hq1, ← hx] at hN hq
    rw [← hy, ← hx] at hV
    rw [← hy, ← hq1, ← hx] at hcall
    clear hy hq1 hx
    by_cases hx0 : x = 0
    · subst hx0
      have HN : Hid (nx gs s 0 = (s.extract q s.size, 0)) := by show _ = _; rw [hN, if_neg (fun h => h rfl)]
      have HV : Hid (nv ⟨#[]⟩ gs s 0 = y) := by show _ = _; rw [hV, if_neg (fun h => h rfl)]
      have hqs : q ≤ s.size := by have := hq.1 rfl; omega
      clear hN hV hq
      have hsl : ∀ W : World, (Instr.slice 9 (.string s) (some (.int .i64 (q : Int))) none none).run Try.prog W = .ok (.string (s.extract q s.size)) W := fun W => by rw [run_slice_string_l W _ _ Try.underlying9 .i64 _ (by omega) (by omega)]; simp only [Int.toNat_natCast]
      go_enter Try.func37, Try.ntmps37
      go_wp2_with (go_at_call 26; refine (hcall _).mono ?_; rintro e w' ⟨rfl, rfl⟩)
      go_region
      all_goals go_wp2
      all_goals exact bodyPost_ret (v := .tuple #[.string y, .agg #[.string (s.extract q s.size), .int .i64 0]]) (by simp [results, Try.results37, go_sem]) rfl ⟨by rw [HV.out, HN.out] <;> rfl, by first | exact (((Up.refl w).alloc _).alloc _).drew | exact ((((Up.refl w).alloc _).alloc _).drew).drew | (repeat (first | exact Up.refl w | apply Up.alloc | apply Up.drew | apply Up.drewN))⟩
    · have HN : Hid (nx gs s 0 = (s, x)) := by show _ = _; rw [hN, if_pos hx0]
      have HV : Hid (nv ⟨#[]⟩ gs s 0 = ⟨#[]⟩) := by show _ = _; rw [hV, if_pos hx0]
      have hx' : ((x : Int) != 0) = true := by rw [bne_iff_ne]; omega
      clear hN hV hq
      go_enter Try.func37, Try.ntmps37
      go_wp2_with (go_at_call 26; refine (hcall _).mono ?_; rintro e w' ⟨rfl, rfl⟩)
      go_region
      all_goals go_wp2
      all_goals exact bodyPost_ret (v := .tuple #[.string (⟨#[]⟩), .agg #[.string s, .int .i64 (x : Nat)]]) (by simp [results, Try.results37, go_sem]) rfl ⟨by rw [HV.out, HN.out] <;> rfl, by first | exact (((Up.refl w).alloc _).alloc _).drew | exact ((((Up.refl w).alloc _).alloc _).drew).drew | (repeat (first | exact Up.refl w | apply Up.alloc | apply Up.drew | apply Up.drewN))⟩
  · have HN : Hid (nx gs s e = (s, e)) := by show _ = _; unfold nx; rw [if_pos he]
    have HV : Hid (nv ⟨#[]⟩ gs s e = ⟨#[]⟩) := by show _ = _; unfold nv; rw [if_pos he]
    have he' : ((e : Int) != 0) = true := by rw [bne_iff_ne]; omega
    go_enter Try.func37, Try.ntmps37
    go_wp2
    go_region
    all_goals go_wp2
    all_goals exact bodyPost_ret (v := .tuple #[.string (⟨#[]⟩), .agg #[.string s, .int .i64 (e : Nat)]]) (by simp [results, Try.results37, go_sem]) rfl ⟨by rw [HV.out, HN.out] <;> rfl, by first | exact (((Up.refl w).alloc _).alloc _).drew | exact ((((Up.refl w).alloc _).alloc _).drew).drew | (repeat (first | exact Up.refl w | apply Up.alloc | apply Up.drew | apply Up.drewN))⟩
set_option maxRecDepth 1000000 in
set_option maxHeartbeats 4000000 in
theorem rrInt_any (s : ByteArray) (e : Nat) (w : World) (hs : s.size ≤ 100000) : Calls Try.prog 35 #[.agg #[.string s, .int .i64 (e : Nat)]] w fun e' w' => e' = .returned (.tuple #[.int .i64 (nv 0 gi s e), .agg #[.string (nx gi s e).1, .int .i64 ((nx gi s e).2 : Nat)]]) ∧ Up w w' := by
  by_cases he : e = 0
  · subst he
    have hcall := fun w => rget_any s w (by omega)
    unfold RetGet at hcall
    have hN : nx gi s 0 = if (gt s).2.2 ≠ 0 then (s, (gt s).2.2) else (s.extract (gt s).2.1 s.size, 0) := rfl
    have hV : nv 0 gi s 0 = if (gt s).2.2 ≠ 0 then 0 else uz (gt s).1 := rfl
    have hq := gt_out s
    obtain ⟨u, hu0⟩ : ∃ u, u = (gt s).1 := ⟨_, rfl⟩
    have hu : u < 18446744073709551616 := by rw [hu0]; exact gt_num _
    obtain ⟨q, hq1⟩ : ∃ q, q = (gt s).2.1 := ⟨_, rfl⟩
    obtain ⟨x, hx⟩ : ∃ x, x = (gt s).2.2 := ⟨_, rfl⟩
    rw [← hq1, ← hx] at hN hq
    rw [← hu0, ← hx] at hV
    rw [← hu0, ← hq1, ← hx] at hcall
    clear hu0 hq1 hx
    by_cases hx0 : x = 0
    · subst hx0
      have HN : Hid (nx gi s 0 = (s.extract q s.size, 0)) := by show _ = _; rw [hN, if_neg (fun h => h rfl)]
      have HV : Hid (nv 0 gi s 0 = uz u) := by show _ = _; rw [hV, if_neg (fun h => h rfl)]
      have hqs : q ≤ s.size := by have := hq.1 rfl; omega
      clear hN hV hq
      have hsl : ∀ W : World, (Instr.slice 9 (.string s) (some (.int .i64 (q : Int))) none none).run Try.prog W = .ok (.string (s.extract q s.size)) W := fun W => by rw [run_slice_string_l W _ _ Try.underlying9 .i64 _ (by omega) (by omega)]; simp only [Int.toNat_natCast]
      go_enter Try.func35, Try.ntmps35
      go_wp2_with (go_at_call 16; refine (hcall _).mono ?_; rintro e w' ⟨rfl, rfl⟩)
      go_region_with (go_at_call 53; refine (integer_any u _ hu).mono ?_; rintro e w' ⟨rfl, rfl⟩)
      all_goals go_wp2
      all_goals exact bodyPost_ret (v := .tuple #[.int .i64 (uz u), .agg #[.string (s.extract q s.size), .int .i64 0]]) (by simp [results, Try.results35, go_sem]) rfl ⟨by rw [HV.out, HN.out] <;> rfl, by first | exact (((Up.refl w).alloc _).alloc _).drew | exact ((((Up.refl w).alloc _).alloc _).drew).drew | (repeat (first | exact Up.refl w | apply Up.alloc | apply Up.drew | apply Up.drewN))⟩
    · have HN : Hid (nx gi s 0 = (s, x)) := by show _ = _; rw [hN, if_pos hx0]
      have HV : Hid (nv 0 gi s 0 = 0) := by show _ = _; rw [hV, if_pos hx0]
      have hx' : ((x : Int) != 0) = true := by rw [bne_iff_ne]; omega
      clear hN hV hq
      go_enter Try.func35, Try.ntmps35
      go_wp2_with (go_at_call 16; refine (hcall _).mono ?_; rintro e w' ⟨rfl, rfl⟩)
      go_region
      all_goals go_wp2
      all_goals exact bodyPost_ret (v := .tuple #[.int .i64 (0), .agg #[.string s, .int .i64 (x : Nat)]]) (by simp [results, Try.results35, go_sem]) rfl ⟨by rw [HV.out, HN.out] <;> rfl, by first | exact (((Up.refl w).alloc _).alloc _).drew | exact ((((Up.refl w).alloc _).alloc _).drew).drew | (repeat (first | exact Up.refl w | apply Up.alloc | apply Up.drew | apply Up.drewN))⟩
  · have HN : Hid (nx gi s e = (s, e)) := by show _ = _; unfold nx; rw [if_pos he]
    have HV : Hid (nv 0 gi s e = 0) := by show _ = _; unfold nv; rw [if_pos he]
    have he' : ((e : Int) != 0) = true := by rw [bne_iff_ne]; omega
    go_enter Try.func35, Try.ntmps35
    go_wp2
    go_region
    all_goals go_wp2
    all_goals exact bodyPost_ret (v := .tuple #[.int .i64 (0), .agg #[.string s, .int .i64 (e : Nat)]]) (by simp [results, Try.results35, go_sem]) rfl ⟨by rw [HV.out, HN.out] <;> rfl, by first | exact (((Up.refl w).alloc _).alloc _).drew | exact ((((Up.refl w).alloc _).alloc _).drew).drew | (repeat (first | exact Up.refl w | apply Up.alloc | apply Up.drew | apply Up.drewN))⟩
end Go.Proofs.Ytcgoogdjgocjbaa
