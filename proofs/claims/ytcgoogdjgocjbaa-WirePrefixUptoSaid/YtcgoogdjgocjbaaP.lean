/- What is written of a list is read back, whatever follows. -/
import Derived.Test.YtcgoogdjgocjbaaG
import Derived.Test.YtcgoogdjgocjbaaI
namespace Go.Proofs.Ytcgoogdjgocjbaa
open Go.RowKit

theorem flat_len {α : Type} (f : α → List Nat) (l : List α) (b : Nat) (h : ∀ a ∈ l, (f a).length ≤ b) : ((l.map f).flatten).length ≤ b * l.length := by
  induction l with
  | nil => simp
  | cons a l ih =>
    have h1 := h a (List.mem_cons_self ..)
    have h2 := ih (fun x hx => h x (List.mem_cons_of_mem _ hx))
    simp only [List.map_cons, List.flatten_cons, List.length_append, List.length_cons]
    rw [Nat.mul_add]; omega
theorem by_ext (s : ByteArray) (a : Nat) : by_ (s.extract a s.size) = (by_ s).drop a := by
  rw [by_extract, ← by_len s, List.take_of_length_le (by rw [List.length_drop]; exact Nat.le_refl _)]
/-- A list whose parts are read back as they were written is read back. -/
theorem gl_back {α : Type} (g : ByteArray → α × Nat × Nat) (f : α → List Nat) (s : ByteArray) : ∀ (l : List α) (a : Nat) (r : List Nat),
    (∀ x ∈ l, ∀ t : ByteArray, ∀ r : List Nat, by_ t = f x ++ r → g t = (x, (f x).length, 0)) → (by_ s).drop a = (l.map f).flatten ++ r → gl g s l.length a = (0, l, a + ((l.map f).flatten).length) := by
  intro l
  induction l with
  | nil => intro a r _ _; simp [gl]
  | cons x l ih =>
    intro a r hx hs
    simp only [List.map_cons, List.flatten_cons, List.append_assoc] at hs
    have h1 := hx x (List.mem_cons_self ..) (s.extract a s.size) _ (by rw [by_ext]; exact hs)
    have h2 : (by_ s).drop (a + (f x).length) = (l.map f).flatten ++ r := by
      rw [← List.drop_drop, hs, List.drop_left]
    have h3 := ih (a + (f x).length) r (fun y hy => hx y (List.mem_cons_of_mem _ hy)) h2
    simp only [List.length_cons, gl]
    rw [h1]
    simp only [ne_eq, not_true_eq_false, if_false]
    rw [h3]
    simp [Nat.add_assoc]
theorem lst_back {α : Type} (g : ByteArray → α × Nat × Nat) (f : α → List Nat) (l : List α) (t : ByteArray) (r : List Nat) (hl : l.length < 18446744073709551616)
    (hx : ∀ x ∈ l, ∀ t : ByteArray, ∀ r : List Nat, by_ t = f x ++ r → g t = (x, (f x).length, 0)) (ht : by_ t = cd f l ++ r) : lst g t = (0, l, (cd f l).length) := by
  have h0 : gt t = (l.length, (vi l.length).length, 0) := by
    unfold gt
    rw [ht]
    unfold cd
    rw [List.append_assoc, rd_vi l.length _ 0 0 (by omega) (by omega) (by omega)]
    simp
  have h1 : (by_ t).drop (vi l.length).length = (l.map f).flatten ++ r := by
    rw [ht]; unfold cd; rw [List.append_assoc, List.drop_left]
  unfold lst
  rw [h0]
  simp only [ne_eq, not_true_eq_false, if_false]
  rw [gl_back g f t l _ r hx h1]
  simp [jn, cd]
theorem gt_back (n : Nat) (t : ByteArray) (r : List Nat) (hn : n < 18446744073709551616) (ht : by_ t = vi n ++ r) : gt t = (n, (vi n).length, 0) := by
  unfold gt
  rw [ht, rd_vi n _ 0 0 (by omega) (by omega) (by omega)]
  simp
theorem gi_back (z : Int) (t : ByteArray) (r : List Nat) (hz : -9223372036854775808 ≤ z ∧ z ≤ 9223372036854775807) (ht : by_ t = ci z ++ r) : gi t = (z, (ci z).length, 0) := by
  unfold gi
  rw [gt_back (zz z) t r (zz_lt hz.1 hz.2) ht]
  simp only [uz_zz]
  rfl
theorem gs_back (s : ByteArray) (t : ByteArray) (r : List Nat) (hs : s.size ≤ 1000000) (ht : by_ t = cs s ++ r) : gs t = (s, (cs s).length, 0) := by
  have hg := gt_back s.size t (by_ s ++ r) (by omega) (by rw [ht]; unfold cs; rw [List.append_assoc])
  have hsz : t.size = (vi s.size).length + s.size + r.length := by
    rw [← by_len, ht]; unfold cs; simp only [List.length_append, by_len]
  unfold gs
  rw [hg]
  simp only [ne_eq, not_true_eq_false, if_false]
  rw [if_neg (by omega)]
  refine Prod.ext ?_ (Prod.ext ?_ rfl)
  · refine by_inj ?_
    show by_ (t.extract _ _) = _
    rw [by_extract, ht]; unfold cs
    rw [List.append_assoc, List.drop_left, Nat.add_sub_cancel_left, ← by_len s, List.take_left]
  · show _ + s.size = _
    unfold cs; rw [List.length_append, by_len]
theorem cd_lt {α : Type} (f : α → List Nat) (hf : ∀ a, ∀ x ∈ f a, x < 256) (l : List α) : ∀ x ∈ cd f l, x < 256 := by
  rw [← cp_end f l rfl]; exact cp_lt f hf l _
theorem lst_ints (l : List Int) (rest : ByteArray) (hl : l.length ≤ 1000000) (hI : ∀ z ∈ l, -9223372036854775808 ≤ z ∧ z ≤ 9223372036854775807) : lst gi (bs (cd ci l) ++ rest) = (0, l, (bs (cd ci l)).size) := by
  rw [lst_back gi ci l _ (by_ rest) (by omega) (fun z hz t r ht => gi_back z t r (hI z hz) ht) (by rw [by_append, by_bs _ (cd_lt ci ci_lt l)]), bs_size]
theorem lst_strs (l : List ByteArray) (rest : ByteArray) (hl : l.length ≤ 1000000) (hI : ∀ s ∈ l, s.size ≤ 1000000) : lst gs (bs (cd cs l) ++ rest) = (0, l, (bs (cd cs l)).size) := by
  rw [lst_back gs cs l _ (by_ rest) (by omega) (fun s hs t r ht => gs_back s t r (hI s hs) ht) (by rw [by_append, by_bs _ (cd_lt cs cs_lt l)]), bs_size]
end Go.Proofs.Ytcgoogdjgocjbaa
