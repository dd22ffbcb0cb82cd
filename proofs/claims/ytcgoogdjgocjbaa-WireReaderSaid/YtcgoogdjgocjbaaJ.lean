/- Walks: the reader. -/
import Derived.Test.YtcgoogdjgocjbaaG
namespace Go.Proofs.Ytcgoogdjgocjbaa
open Go.RowKit

theorem Up.keep {w w' : World} (h : Up w w') {a : Addr} {v : Value} (e : w.cell? a = some v) : w'.cell? a = some v := (h.cell (World.block_lt_of_cell? w _ e)).trans e
/-- Block g holds a reader of s, with the error e. -/
structure Rdr (w : World) (g : Nat) (s : ByteArray) (e : Nat) : Prop where
  c0 : w.cell? ⟨g, 0, none⟩ = some (.string s)
  c1 : w.cell? ⟨g, 1, none⟩ = some (.int .i64 (e : Nat))
  f0 : w.frozen? ⟨g, 0, none⟩ = false
  f1 : w.frozen? ⟨g, 1, none⟩ = false
theorem Rdr.lt {w : World} {g : Nat} {s : ByteArray} {e : Nat} (h : Rdr w g s e) : g < w.heap.size := World.block_lt_of_cell? w _ h.c0
theorem Rdr.new (w : World) (s : ByteArray) (t : TypeId) : Rdr (w.alloc (.cells #[.string s, .int .i64 0] t)) w.heap.size s 0 := ⟨by simp, by simp, by simp, by simp⟩
theorem Rdr.up {w w' : World} {g : Nat} {s : ByteArray} {e : Nat} (h : Rdr w g s e) (hu : Up w w') : Rdr w' g s e :=
  ⟨hu.keep h.c0, hu.keep h.c1, (hu.frozen h.lt).trans h.f0, (hu.frozen h.lt).trans h.f1⟩
theorem Rdr.rest {w : World} {g : Nat} {s : ByteArray} {e : Nat} (h : Rdr w g s e) (t : ByteArray) : Rdr (w.setCell ⟨g, 0, none⟩ (.string t)) g t e :=
  ⟨World.cell?_setCell_same w _ _ h.c0, (World.cell?_setCell_other w _ _ _ (by simp)).trans h.c1, by simpa using h.f0, by simpa using h.f1⟩
theorem Rdr.err {w : World} {g : Nat} {s : ByteArray} {e : Nat} (h : Rdr w g s e) (x : Nat) : Rdr (w.setCell ⟨g, 1, none⟩ (.int .i64 (x : Nat))) g s x :=
  ⟨(World.cell?_setCell_other w _ _ _ (by simp)).trans h.c0, World.cell?_setCell_same w _ _ h.c1, by simpa using h.f0, by simpa using h.f1⟩
theorem grown_set (w : World) (a : Addr) (u : Value) : w.grownBy (w.setCell a u) (some a.block) := ⟨rfl, rfl, rfl, by simp, fun k _ hk => Below.heap_setCell w a u k (fun e => hk (by rw [e]))⟩
theorem grown_up {w w1 w2 : World} {g : Nat} (h : Up w w1) (hg : w1.grownBy w2 (some g)) : w.grownBy w2 (some g) :=
  ⟨hg.os.trans h.os, hg.tape.trans h.tape, hg.output.trans h.output, Nat.le_trans h.size hg.size, fun k hk hne => (hg.block k (Nat.lt_of_lt_of_le hk h.size) hne).trans (h.block k hk)⟩
theorem grown_below {w w1 : World} {g B : Nat} (hg : w.grownBy w1 (some g)) (hB : B ≤ g) (hw : B ≤ w.heap.size) : Below B w w1 := (Below.refl B w).grown hg hw (fun k hk => by cases hk; exact hB)
theorem Rdr.other {w w' : World} {g b : Nat} {s : ByteArray} {e : Nat} (h : Rdr w b s e) (hg : w.grownBy w' (some g)) (hne : b ≠ g) : Rdr w' b s e := by
  have hb := hg.block b h.lt (fun e => hne (by injection e))
  have hc : ∀ i, w'.cell? ⟨b, i, none⟩ = w.cell? ⟨b, i, none⟩ := fun i => World.cell?_of_block hb
  have hf : ∀ i, w'.frozen? ⟨b, i, none⟩ = w.frozen? ⟨b, i, none⟩ := fun i => World.frozen?_of_block hb
  exact ⟨(hc 0).trans h.c0, (hc 1).trans h.c1, (hf 0).trans h.f0, (hf 1).trans h.f1⟩
/-- What remains behind a step. -/
def nx {α : Type} (f : ByteArray → α × Nat × Nat) (s : ByteArray) (e : Nat) : ByteArray × Nat := if e ≠ 0 then (s, e) else if (f s).2.2 ≠ 0 then (s, (f s).2.2) else (s.extract (f s).2.1 s.size, 0)
def nv {α : Type} (z : α) (f : ByteArray → α × Nat × Nat) (s : ByteArray) (e : Nat) : α := if e ≠ 0 then z else if (f s).2.2 ≠ 0 then z else (f s).1
theorem nx_size {α : Type} (f : ByteArray → α × Nat × Nat) (s : ByteArray) (e : Nat) : (nx f s e).1.size ≤ s.size := by
  unfold nx
  split
  · exact Nat.le_refl _
  · split
    · exact Nat.le_refl _
    · show (s.extract _ _).size ≤ _
      rw [ByteArray.size_extract]; omega
set_option maxHeartbeats 400000 in
theorem newr_any (s : ByteArray) (w : World) : Calls Try.prog 34 #[.string s] w fun e w' => e = .returned (.pointer (some ⟨w.heap.size, 0, none⟩)) ∧ w' = w.alloc (.cells #[.string s, .int .i64 0] 77) := by
  go_enter Try.func34, Try.ntmps34
  go_wp2
  go_ret
  exact ⟨rfl, rfl⟩
set_option maxRecDepth 1000000 in
set_option maxHeartbeats 4000000 in
theorem nextI_any (g : Nat) (s : ByteArray) (e : Nat) (w : World) (hs : s.size ≤ 100000) (hr : Rdr w g s e) : Calls Try.prog 54 #[.pointer (some ⟨g, 0, none⟩), .func (.func 51) #[] #[]] w (fun e' w' => e' = .returned (.int .i64 (nv 0 gi s e)) ∧ Rdr w' g (nx gi s e).1 (nx gi s e).2 ∧ w.grownBy w' (some g)) := by
  obtain ⟨hc0, hc1, hf0, hf1⟩ := id hr
  by_cases he : e = 0
  · subst he
    have hcall := gint_any s w (by omega)
    unfold RetGi at hcall
    have hN : nx gi s 0 = if (gt s).2.2 ≠ 0 then (s, (gt s).2.2) else (s.extract (gt s).2.1 s.size, 0) := rfl
    have hV : nv 0 gi s 0 = if (gt s).2.2 ≠ 0 then 0 else uz (gt s).1 := rfl
    have hq := gt_out s
    obtain ⟨y, hy⟩ : ∃ y, y = uz (gt s).1 := ⟨_, rfl⟩
    obtain ⟨q, hq1⟩ : ∃ q, q = (gt s).2.1 := ⟨_, rfl⟩
    obtain ⟨x, hx⟩ : ∃ x, x = (gt s).2.2 := ⟨_, rfl⟩
    rw [← hq1, ← hx] at hN hq
    rw [← hy, ← hx] at hV
    rw [← hy, ← hq1, ← hx] at hcall
    clear hy hq1 hx
    by_cases hx0 : x = 0
    · subst hx0
      have HN : Hid (nx gi s 0 = (s.extract q s.size, 0)) := by show _ = _; rw [hN, if_neg (fun h => h rfl)]
      have HV : Hid (nv 0 gi s 0 = y) := by show _ = _; rw [hV, if_neg (fun h => h rfl)]
      have hqs : q ≤ s.size := by have := hq.1 rfl; omega
      clear hN hV hq
      go_enter Try.func54, Try.ntmps54
      go_wp2_with (go_at_call 51; refine hcall.mono ?_; rintro e w' ⟨rfl, rfl⟩)
      go_ret
      refine ⟨by rw [HV.out] <;> rfl, ?_, ?_⟩
      · rw [HN.out]; exact hr.rest _
      · exact grown_set w ⟨g, 0, none⟩ _
    · have HN : Hid (nx gi s 0 = (s, x)) := by show _ = _; rw [hN, if_pos hx0]
      have HV : Hid (nv 0 gi s 0 = 0) := by show _ = _; rw [hV, if_pos hx0]
      have hx' : ((x : Int) != 0) = true := by rw [bne_iff_ne]; omega
      clear hN hV hq
      go_enter Try.func54, Try.ntmps54
      go_wp2_with (go_at_call 51; refine hcall.mono ?_; rintro e w' ⟨rfl, rfl⟩)
      go_ret
      refine ⟨by rw [HV.out] <;> rfl, ?_, ?_⟩
      · rw [HN.out]; exact hr.err _
      · exact grown_set w ⟨g, 1, none⟩ _
  · have HN : Hid (nx gi s e = (s, e)) := by show _ = _; unfold nx; rw [if_pos he]
    have HV : Hid (nv 0 gi s e = 0) := by show _ = _; unfold nv; rw [if_pos he]
    have he' : ((e : Int) != 0) = true := by rw [bne_iff_ne]; omega
    go_enter Try.func54, Try.ntmps54
    go_wp2
    go_ret
    refine ⟨by rw [HV.out] <;> rfl, ?_, World.grownBy.refl w _⟩
    rw [HN.out]; exact hr
set_option maxHeartbeats 1000000 in
theorem rInt_any (g : Nat) (s : ByteArray) (e : Nat) (w : World) (hs : s.size ≤ 100000) (hr : Rdr w g s e) : Calls Try.prog 36 #[.pointer (some ⟨g, 0, none⟩)] w (fun e' w' => e' = .returned (.int .i64 (nv 0 gi s e)) ∧ Rdr w' g (nx gi s e).1 (nx gi s e).2 ∧ w.grownBy w' (some g)) := by
  go_enter Try.func36, Try.ntmps36
  go_wp2_with (go_at_call 54; refine (nextI_any g s e _ hs hr).mono ?_; rintro e' w1 ⟨rfl, h1, h2⟩)
  go_ret
  exact ⟨rfl, h1, h2⟩
set_option maxRecDepth 1000000 in
set_option maxHeartbeats 4000000 in
theorem nextS_any (g : Nat) (s : ByteArray) (e : Nat) (w : World) (hs : s.size ≤ 100000) (hr : Rdr w g s e) : Calls Try.prog 55 #[.pointer (some ⟨g, 0, none⟩), .func (.func 24) #[] #[]] w (fun e' w' => e' = .returned (.string (nv ⟨#[]⟩ gs s e)) ∧ Rdr w' g (nx gs s e).1 (nx gs s e).2 ∧ w.grownBy w' (some g)) := by
  obtain ⟨hc0, hc1, hf0, hf1⟩ := id hr
  by_cases he : e = 0
  · subst he
    have hcall := gstr_any s w (by omega)
    unfold RetGs at hcall
    have hN : nx gs s 0 = if (gs s).2.2 ≠ 0 then (s, (gs s).2.2) else (s.extract (gs s).2.1 s.size, 0) := rfl
    have hV : nv ⟨#[]⟩ gs s 0 = if (gs s).2.2 ≠ 0 then ⟨#[]⟩ else (gs s).1 := rfl
    have hq := gs_out' s
    obtain ⟨y, hy⟩ : ∃ y, y = (gs s).1 := ⟨_, rfl⟩
    obtain ⟨q, hq1⟩ : ∃ q, q = (gs s).2.1 := ⟨_, rfl⟩
    obtain ⟨x, hx⟩ : ∃ x, x = (gs s).2.2 := ⟨_, rfl⟩
    rw [← hq1, ← hx] at hN hq
    rw [← hy, ← hx] at hV
    rw [← hy, ← hq1, ← hx] at hcall
    clear hy hq1 hx
    by_cases hx0 : x = 0
    · subst hx0
      have HN : Hid (nx gs s 0 = (s.extract q s.size, 0)) := by show _ = _; rw [hN, if_neg (fun h => h rfl)]
      have HV : Hid (nv ⟨#[]⟩ gs s 0 = y) := by show _ = _; rw [hV, if_neg (fun h => h rfl)]
      have hqs : q ≤ s.size := by have := hq.1 rfl; omega
      clear hN hV hq
      go_enter Try.func55, Try.ntmps55
      go_wp2_with (go_at_call 24; refine hcall.mono ?_; rintro e w' ⟨rfl, rfl⟩)
      go_ret
      refine ⟨by rw [HV.out] <;> rfl, ?_, ?_⟩
      · rw [HN.out]; exact hr.rest _
      · exact grown_set w ⟨g, 0, none⟩ _
    · have HN : Hid (nx gs s 0 = (s, x)) := by show _ = _; rw [hN, if_pos hx0]
      have HV : Hid (nv ⟨#[]⟩ gs s 0 = ⟨#[]⟩) := by show _ = _; rw [hV, if_pos hx0]
      have hx' : ((x : Int) != 0) = true := by rw [bne_iff_ne]; omega
      clear hN hV hq
      go_enter Try.func55, Try.ntmps55
      go_wp2_with (go_at_call 24; refine hcall.mono ?_; rintro e w' ⟨rfl, rfl⟩)
      go_ret
      refine ⟨by rw [HV.out] <;> rfl, ?_, ?_⟩
      · rw [HN.out]; exact hr.err _
      · exact grown_set w ⟨g, 1, none⟩ _
  · have HN : Hid (nx gs s e = (s, e)) := by show _ = _; unfold nx; rw [if_pos he]
    have HV : Hid (nv ⟨#[]⟩ gs s e = ⟨#[]⟩) := by show _ = _; unfold nv; rw [if_pos he]
    have he' : ((e : Int) != 0) = true := by rw [bne_iff_ne]; omega
    go_enter Try.func55, Try.ntmps55
    go_wp2
    go_ret
    refine ⟨by rw [HV.out] <;> rfl, ?_, World.grownBy.refl w _⟩
    rw [HN.out]; exact hr
set_option maxHeartbeats 1000000 in
theorem rStr_any (g : Nat) (s : ByteArray) (e : Nat) (w : World) (hs : s.size ≤ 100000) (hr : Rdr w g s e) : Calls Try.prog 38 #[.pointer (some ⟨g, 0, none⟩)] w (fun e' w' => e' = .returned (.string (nv ⟨#[]⟩ gs s e)) ∧ Rdr w' g (nx gs s e).1 (nx gs s e).2 ∧ w.grownBy w' (some g)) := by
  go_enter Try.func38, Try.ntmps38
  go_wp2_with (go_at_call 55; refine (nextS_any g s e _ hs hr).mono ?_; rintro e' w1 ⟨rfl, h1, h2⟩)
  go_ret
  exact ⟨rfl, h1, h2⟩
/-- What End returns. -/
def en (s : ByteArray) (e : Nat) : Nat := if e ≠ 0 then e else if s.size = 0 then 0 else 2
theorem size_ne {s : ByteArray} (h : s.size ≠ 0) : s.toList.isEmpty = false := by
  rw [ByteArray.toList_eq]
  obtain ⟨⟨l⟩⟩ := s
  cases l with
  | nil => exact absurd rfl h
  | cons a l => rfl
set_option maxRecDepth 1000000 in
set_option maxHeartbeats 4000000 in
theorem rEnd_any (g : Nat) (s : ByteArray) (e : Nat) (w : World) (hr : Rdr w g s e) : Calls Try.prog 41 #[.pointer (some ⟨g, 0, none⟩)] w fun e' w' => e' = .returned (.int .i64 (en s e : Nat)) ∧ w = w' := by
  obtain ⟨hc0, hc1, hf0, hf1⟩ := id hr
  by_cases he : e = 0
  · subst he
    by_cases hz : s.size = 0
    · obtain rfl : s = ⟨#[]⟩ := by
        obtain ⟨⟨l⟩⟩ := s
        cases l with
        | nil => rfl
        | cons a l => cases hz
      go_enter Try.func41, Try.ntmps41
      go_wp2
      go_ret
      exact ⟨rfl, rfl⟩
    · have hz' := size_ne hz
      have HE : Hid (en s 0 = 2) := by show en s 0 = 2; unfold en; rw [if_neg (fun h => h rfl), if_neg hz]
      go_enter Try.func41, Try.ntmps41
      go_wp2
      go_ret
      exact ⟨by rw [HE.out] <;> rfl, rfl⟩
  · have HE : Hid (en s e = e) := by show en s e = e; unfold en; rw [if_pos he]
    have he' : ((e : Int) == 0) = false := by rw [beq_eq_false_iff_ne]; omega
    go_enter Try.func41, Try.ntmps41
    go_wp2
    go_ret
    exact ⟨by rw [HE.out] <;> rfl, rfl⟩
end Go.Proofs.Ytcgoogdjgocjbaa
