/- Walks: codes of lists, of both. -/
import Derived.Test.YtcgoogdjgocjbaaB
import Derived.Test.YtcgoogdjgocjbaaF
namespace Go.Proofs.Ytcgoogdjgocjbaa
open Go.RowKit

/-- The code of a list, by the code of a part, and what is written of it ahead of part k. -/
def cd {α : Type} (f : α → List Nat) (l : List α) : List Nat := vi l.length ++ (l.map f).flatten
def cp {α : Type} (f : α → List Nat) (l : List α) (k : Nat) : List Nat := vi l.length ++ ((l.take k).map f).flatten
theorem cp_zero {α : Type} (f : α → List Nat) (l : List α) : cp f l 0 = vi l.length := by simp [cp]
theorem cp_end {α : Type} (f : α → List Nat) (l : List α) {k : Nat} (h : k = l.length) : cp f l k = cd f l := by subst h; simp [cp, cd]
theorem cp_step {α : Type} (f : α → List Nat) (l : List α) (k : Nat) (d : α) (h : k < l.length) : cp f l (k + 1) = cp f l k ++ f (l.getD k d) := by
  have h1 : l.take (k + 1) = l.take k ++ [l.getD k d] := by rw [List.take_add_one, List.getElem?_eq_getElem h]; simp [List.getD, h]
  unfold cp
  rw [h1, List.map_append, List.flatten_append, List.append_assoc]
  simp only [List.map_cons, List.map_nil, List.flatten_cons, List.flatten_nil, List.append_nil]
theorem cp_len {α : Type} (f : α → List Nat) (l : List α) (k : Nat) : (cp f l k).length ≤ (cd f l).length := by
  unfold cp cd
  have : (l.map f).flatten = ((l.take k).map f).flatten ++ ((l.drop k).map f).flatten := by rw [← List.flatten_append, ← List.map_append, List.take_append_drop]
  rw [this]
  simp only [List.length_append]; omega
def ci (z : Int) : List Nat := vi (zz z)
theorem cp_lt {α : Type} (f : α → List Nat) (hf : ∀ a, ∀ x ∈ f a, x < 256) (l : List α) (k : Nat) : ∀ x ∈ cp f l k, x < 256 := by
  intro x hx
  unfold cp at hx
  rcases List.mem_append.1 hx with h | h
  · exact vi_byte _ x h
  · simp only [List.mem_flatten, List.mem_map] at h
    obtain ⟨y, ⟨a, _, rfl⟩, hy⟩ := h
    exact hf a x hy
theorem ci_lt (z : Int) : ∀ x ∈ ci z, x < 256 := vi_byte _
theorem bs_len (s t : List Nat) (h : s.length + t.length ≤ 1000000) (w : World) : (Op.stringOp .add (bs s) (bs t)).run Try.prog w = .ok (.string (bs (s ++ t))) w := by
  rw [run_string_add_sum w _ _ (by rw [bs_size, bs_size]; omega), bs_append]
def I64 (l : List Int) : Prop := ∀ z ∈ l, -9223372036854775808 ≤ z ∧ z ≤ 9223372036854775807
theorem I64.getD {l : List Int} (h : I64 l) (k : Nat) : -9223372036854775808 ≤ l.getD k 0 ∧ l.getD k 0 ≤ 9223372036854775807 := by
  by_cases hk : k < l.length
  · exact h _ (by rw [List.getD, List.getElem?_eq_getElem hk]; exact List.getElem_mem hk)
  · rw [List.getD, List.getElem?_eq_none (by omega)]; decide
set_option maxRecDepth 1000000 in
set_option maxHeartbeats 4000000 in
theorem ppS_any (A : Option Addr) (n c : Nat) (l : List ByteArray) (w : World) (hv : Vals w A (ss l)) (Hn : Hid (n = l.length)) (hn : n ≤ 100000) (hb : (cd cs l).length ≤ 500000) :
    Calls Try.prog 45 #[.slice A n c, .func (.func 46) #[] #[]] w (RetStr w (bs (cd cs l))) := by
  go_enter Try.func45, Try.ntmps45
  go_wp2_with (go_at_call 43; refine (av_any w.heap.size _ 0 [] n _ (Own.nil _ _) (by omega) (by omega) (Nat.le_refl _)).mono ?_; rintro e w1 ⟨v1, m1, rfl, hown1, hup1⟩)
  go_loopw [5, 14] (fun v i wr => ∃ (k m : Nat), i = .int .i64 k ∧ k ≤ n ∧ Own wr w.heap.size v m (cp cs l k) ∧ Up w wr) (fun _ i _ => (n - (intOf i).toNat))
  case atStart => exact ⟨0, m1, rfl, by omega, by rw [cp_zero, ← Hn.out]; exact hown1, hup1⟩
  case round =>
    clear hown1 hup1
    obtain ⟨k, m, rfl, hk, hown', hup⟩ := hrel
    have hsz := hup.size
    by_cases hgo : k < n
    · obtain ⟨y, hyl⟩ : ∃ y, y = l.getD k ⟨#[]⟩ := ⟨_, rfl⟩
      have hvk : (ss l)[k]? = some (.string y) := by rw [hyl]; exact ss_get (by have := Hn.out; omega)
      obtain ⟨ad, hA, hbk, hcell⟩ := (hv.up hup).at_ hvk
      subst hA
      have hys : y.size + m ≤ 500000 := by
        have h1 := cp_len cs l (k + 1)
        rw [cp_step cs l k ⟨#[]⟩ (by have := Hn.out; omega), ← hyl, List.length_append] at h1
        have h2 := hown'.len
        have h3 : (cs y).length = (vi y.size).length + y.size := by unfold cs; rw [List.length_append, by_len]
        omega
      have Hs : Hid (cp cs l (k + 1) = cp cs l k ++ cs y) := by show _ = _; rw [cp_step cs l k ⟨#[]⟩ (by have := Hn.out; omega), ← hyl]
      clear hyl hvk
      go_wp2_with (go_at_call 46; refine (as_any w.heap.size _ m _ y _ hown' (by omega) (by omega)).mono ?_; rintro e w2 ⟨v2, m2, rfl, hown2, hup2⟩)
      go_roundw
      case rel => exact ⟨k + 1, m2, by go_num, by omega, by rw [Hs.out]; exact hown2, Below.trans hup hup2⟩
      case measure => simp [intOf] <;> omega
    · obtain rfl : k = n := by omega
      obtain ⟨A1, c1, rfl, _, hlim1, _⟩ := hown'.lim
      have hcv := run_str wr A1 m c1 _ hlim1 hown'.len (cp_lt cs cs_lt l k)
      have HE : Hid (cp cs l k = cd cs l) := cp_end _ _ Hn.out
      go_wp2
      go_ret
      exact ⟨by rw [← HE.out] <;> rfl, hup⟩
set_option maxRecDepth 1000000 in
set_option maxHeartbeats 4000000 in
theorem ppI_any (A : Option Addr) (n c : Nat) (l : List Int) (w : World) (hv : Vals w A (is l)) (Hn : Hid (n = l.length)) (hn : n ≤ 100000) (hb : (cd ci l).length ≤ 500000) (hI : I64 l) :
    Calls Try.prog 48 #[.slice A n c, .func (.func 49) #[] #[]] w (RetStr w (bs (cd ci l))) := by
  go_enter Try.func48, Try.ntmps48
  go_wp2_with (go_at_call 43; refine (av_any w.heap.size _ 0 [] n _ (Own.nil _ _) (by omega) (by omega) (Nat.le_refl _)).mono ?_; rintro e w1 ⟨v1, m1, rfl, hown1, hup1⟩)
  go_loopw [5, 14] (fun v i wr => ∃ (k m : Nat), i = .int .i64 k ∧ k ≤ n ∧ Own wr w.heap.size v m (cp ci l k) ∧ Up w wr) (fun _ i _ => (n - (intOf i).toNat))
  case atStart => exact ⟨0, m1, rfl, by omega, by rw [cp_zero, ← Hn.out]; exact hown1, hup1⟩
  case round =>
    clear hown1 hup1
    obtain ⟨k, m, rfl, hk, hown', hup⟩ := hrel
    have hsz := hup.size
    by_cases hgo : k < n
    · obtain ⟨y, hyl⟩ : ∃ y, y = l.getD k 0 := ⟨_, rfl⟩
      have hvk : (is l)[k]? = some (.int .i64 y) := by rw [hyl]; exact is_get (by have := Hn.out; omega)
      obtain ⟨ad, hA, hbk, hcell⟩ := (hv.up hup).at_ hvk
      subst hA
      have hy64 : -9223372036854775808 ≤ y ∧ y ≤ 9223372036854775807 := by rw [hyl]; exact hI.getD k
      have hms : m ≤ 500000 := by
        have h1 := cp_len ci l k
        have h2 := hown'.len
        omega
      have Hs : Hid (cp ci l (k + 1) = cp ci l k ++ ci y) := by show _ = _; rw [cp_step ci l k 0 (by have := Hn.out; omega), ← hyl]
      clear hyl hvk
      go_wp2_with (go_at_call 49; refine (ai_any w.heap.size _ m _ y _ hown' (by omega) hy64.1 hy64.2 (by omega)).mono ?_; rintro e w2 ⟨v2, m2, rfl, hown2, hup2⟩)
      go_roundw
      case rel => exact ⟨k + 1, m2, by go_num, by omega, by rw [Hs.out]; exact hown2, Below.trans hup hup2⟩
      case measure => simp [intOf] <;> omega
    · obtain rfl : k = n := by omega
      obtain ⟨A1, c1, rfl, _, hlim1, _⟩ := hown'.lim
      have hcv := run_str wr A1 m c1 _ hlim1 hown'.len (cp_lt ci ci_lt l k)
      have HE : Hid (cp ci l k = cd ci l) := cp_end _ _ Hn.out
      go_wp2
      go_ret
      exact ⟨by rw [← HE.out] <;> rfl, hup⟩
set_option maxHeartbeats 1000000 in
theorem plist_any (A : Option Addr) (n c : Nat) (l : List ByteArray) (w : World) (hv : Vals w A (ss l)) (Hn : Hid (n = l.length)) (hn : n ≤ 100000) (hb : (cd cs l).length ≤ 500000) : Calls Try.prog 18 #[.slice A n c] w (RetStr w (bs (cd cs l))) := by
  go_enter Try.func18, Try.ntmps18
  go_wp2_with (go_at_call 45; refine (ppS_any A n c l _ hv Hn hn hb).mono ?_; rintro e w1 ⟨rfl, h5⟩)
  go_ret
  exact ⟨rfl, h5⟩
set_option maxHeartbeats 1000000 in
theorem pints_any (A : Option Addr) (n c : Nat) (l : List Int) (w : World) (hv : Vals w A (is l)) (Hn : Hid (n = l.length)) (hn : n ≤ 100000) (hb : (cd ci l).length ≤ 500000) (hI : I64 l) : Calls Try.prog 28 #[.slice A n c] w (RetStr w (bs (cd ci l))) := by
  go_enter Try.func28, Try.ntmps28
  go_wp2_with (go_at_call 48; refine (ppI_any A n c l _ hv Hn hn hb hI).mono ?_; rintro e w1 ⟨rfl, h5⟩)
  go_ret
  exact ⟨rfl, h5⟩
set_option maxRecDepth 1000000 in
set_option maxHeartbeats 4000000 in
theorem rplist_any (A : Option Addr) (n c : Nat) (l : List ByteArray) (w : World) (hv : Vals w A (ss l)) (Hn : Hid (n = l.length)) (hn : n ≤ 100000) (hb : (cd cs l).length ≤ 500000) : Calls Try.prog 21 #[.slice A n c] w (RetStr w (bs (cd cs l))) := by
  go_enter Try.func21, Try.ntmps21
  go_wp2_with (go_at_call 15; refine (rput_any n _ (by omega)).mono ?_; rintro e w1 ⟨rfl, hup1⟩)
  go_loopw [3, 4] (fun v i wr => ∃ (k : Nat) (o : List Nat), i = .int .i64 k ∧ k ≤ n ∧ v = .string (bs o) ∧ Hid (o = cp cs l k) ∧ Up w wr) (fun _ i _ => (n - (intOf i).toNat))
  case atStart => exact ⟨0, vi n, rfl, by omega, rfl, by show _ = _; rw [cp_zero, ← Hn.out], hup1⟩
  case round =>
    clear hup1
    obtain ⟨k, o, rfl, hk, rfl, HO, hup⟩ := hrel
    by_cases hgo : k < n
    · obtain ⟨y, hyl⟩ : ∃ y, y = l.getD k ⟨#[]⟩ := ⟨_, rfl⟩
      have hvk : (ss l)[k]? = some (.string y) := by rw [hyl]; exact ss_get (by have := Hn.out; omega)
      obtain ⟨ad, hA, hbk, hcell⟩ := (hv.up hup).at_ hvk
      subst hA
      have hyc : (cp cs l k).length + (cs y).length ≤ 500000 := by
        have h1 := cp_len cs l (k + 1)
        rw [cp_step cs l k ⟨#[]⟩ (by have := Hn.out; omega), ← hyl, List.length_append] at h1
        omega
      have hys : y.size ≤ 500000 := by
        have h2 : (cs y).length = (vi y.size).length + y.size := by unfold cs; rw [List.length_append, by_len]
        omega
      have hadd := bs_len (cp cs l k) (cs y) (by omega)
      have Hs : Hid (cp cs l (k + 1) = cp cs l k ++ cs y) := by show _ = _; rw [cp_step cs l k ⟨#[]⟩ (by have := Hn.out; omega), ← hyl]
      rw [← HO.out] at Hs hadd
      clear hyl hvk hyc
      go_wp2_with (first | (go_at_call 25; refine (rps_any y _ (by omega)).mono ?_; rintro e w2 ⟨rfl, hup2⟩))
      go_roundw
      case rel => exact ⟨k + 1, o ++ cs y, by go_num, by omega, rfl, Hs.out.symm, hup.trans (by assumption)⟩
      case measure => simp [intOf] <;> omega
    · obtain rfl : k = n := by omega
      have HE : Hid (o = cd cs l) := HO.out.trans (cp_end _ _ Hn.out)
      go_wp2
      go_ret
      exact ⟨by rw [← HE.out] <;> rfl, hup⟩
set_option maxRecDepth 1000000 in
set_option maxHeartbeats 4000000 in
theorem rpints_any (A : Option Addr) (n c : Nat) (l : List Int) (w : World) (hv : Vals w A (is l)) (Hn : Hid (n = l.length)) (hn : n ≤ 100000) (hb : (cd ci l).length ≤ 500000) (hI : I64 l) : Calls Try.prog 31 #[.slice A n c] w (RetStr w (bs (cd ci l))) := by
  go_enter Try.func31, Try.ntmps31
  go_wp2_with (go_at_call 15; refine (rput_any n _ (by omega)).mono ?_; rintro e w1 ⟨rfl, hup1⟩)
  go_loopw [3, 4] (fun v i wr => ∃ (k : Nat) (o : List Nat), i = .int .i64 k ∧ k ≤ n ∧ v = .string (bs o) ∧ Hid (o = cp ci l k) ∧ Up w wr) (fun _ i _ => (n - (intOf i).toNat))
  case atStart => exact ⟨0, vi n, rfl, by omega, rfl, by show _ = _; rw [cp_zero, ← Hn.out], hup1⟩
  case round =>
    clear hup1
    obtain ⟨k, o, rfl, hk, rfl, HO, hup⟩ := hrel
    by_cases hgo : k < n
    · obtain ⟨y, hyl⟩ : ∃ y, y = l.getD k 0 := ⟨_, rfl⟩
      have hvk : (is l)[k]? = some (.int .i64 y) := by rw [hyl]; exact is_get (by have := Hn.out; omega)
      obtain ⟨ad, hA, hbk, hcell⟩ := (hv.up hup).at_ hvk
      subst hA
      have hyc : (cp ci l k).length + (ci y).length ≤ 500000 := by
        have h1 := cp_len ci l (k + 1)
        rw [cp_step ci l k 0 (by have := Hn.out; omega), ← hyl, List.length_append] at h1
        omega
      have hy64 : -9223372036854775808 ≤ y ∧ y ≤ 9223372036854775807 := by rw [hyl]; exact hI.getD k
      have hadd : ∀ w : World, (Op.stringOp .add (bs (cp ci l k)) (bs (vi (zz y)))).run Try.prog w = .ok (.string (bs (cp ci l k ++ ci y))) w := bs_len (cp ci l k) (ci y) (by omega)
      have Hs : Hid (cp ci l (k + 1) = cp ci l k ++ ci y) := by show _ = _; rw [cp_step ci l k 0 (by have := Hn.out; omega), ← hyl]
      rw [← HO.out] at Hs hadd
      clear hyl hvk hyc
      go_wp2_with (first | (go_at_call 52; refine (zig_any y _ hy64.1 hy64.2).mono ?_; rintro e w2 ⟨rfl, rfl⟩) | (go_at_call 15; refine (rput_any (zz y) _ (zz_lt hy64.1 hy64.2)).mono ?_; rintro e w2 ⟨rfl, hup2⟩))
      go_roundw
      case rel => exact ⟨k + 1, o ++ ci y, by go_num, by omega, rfl, Hs.out.symm, hup.trans (by assumption)⟩
      case measure => simp [intOf] <;> omega
    · obtain rfl : k = n := by omega
      have HE : Hid (o = cd ci l) := HO.out.trans (cp_end _ _ Hn.out)
      go_wp2
      go_ret
      exact ⟨by rw [← HE.out] <;> rfl, hup⟩
end Go.Proofs.Ytcgoogdjgocjbaa
