/- Walks: fields and lines. -/
import Derived.Test.YtnhncakkbfjdjaaDoorVb
namespace Go.Proofs.YtnhncakkbfjdjaaDoor
open Go.RowKit

set_option maxRecDepth 100000 in
theorem has_high (r : Int) (h1 : 128 ≤ r) (h2 : r ≤ 1114111) (w : World) : Calls Tryd.prog 42 #[.string ⟨#[32, 9, 13, 10]⟩, .int .i32 r] w (RetB w false) := by
  go_enter Tryd.func42, Tryd.ntmps42
  go_wp2_with fail
  refine (indexRune_high ⟨#[32, 9, 13, 10]⟩ rfl (by decide) r h1 h2 _).mono ?_
  rintro e w2 ⟨rfl, hu⟩
  go_wp2
  go_ret
  exact ⟨rfl, hu⟩
theorem has_low : ∀ c : Nat, c < 128 → decide (0 ≤ Lib.indexByte (⟨#[32, 9, 13, 10]⟩ : ByteArray).data.toList ((c : Int).toNat.toUInt8)) = isW c := by decide +kernel
theorem isSpace_any (c : Nat) (hc : c ≤ 1114111) (w : World) : Calls Tryd.prog 41 #[.int .i32 (c : Int)] w (RetB w (isW c)) := by
  by_cases h : c < 128
  · go_enter Tryd.func41, Tryd.ntmps41
    go_wp2_with fail
    refine (Tryd.strings_ContainsRune_ascii ⟨#[32, 9, 13, 10]⟩ (c : Int) _ (by omega) (by omega)).mono ?_
    rw [has_low c h]
    rintro e w2 ⟨rfl, rfl⟩
    go_wp2
    go_ret
    exact ⟨rfl, Up.refl _⟩
  · rw [isW_high c (by omega)]
    go_enter Tryd.func41, Tryd.ntmps41
    go_wp2_with fail
    refine (has_high (c : Int) (by omega) (by omega) _).mono ?_
    rintro e w2 ⟨rfl, hu⟩
    go_wp2
    go_ret
    exact ⟨rfl, hu⟩
theorem fieldsFunc_any (s : ByteArray) (w : World) (hs : s.size ≤ 100000) : Calls Tryd.prog 40 #[.string s, .func (.func 41) #[] #[]] w (RetLs w (fld (by_ s))) := by
  refine (Any.strings_FieldsFunc_grows Tryd.lays229 41 #[] (enters_of Tryd.func41 (by kernel_rfl) rfl) isW s w (by omega) (fun W x hx _ => isSpace_any x hx W) (by kernel_rfl) (by kernel_rfl)).mono ?_
  rintro e w' ⟨A, rfl, _, hown, hb⟩
  rw [goFields_fld] at hown ⊢
  have hown : w'.ownsRow w.heap.size 9 1 (.slice (some ⟨A, 0, none⟩) ((fld (by_ s)).map bs).length ((fld (by_ s)).map bs).length) ((fld (by_ s)).map bs).length (sb (fld (by_ s))) := hown
  obtain ⟨A1, c1, he, hc1, hv1, _, _⟩ := own_vals hown
  rw [List.length_map] at he hc1
  injection he with he1 he2 he3
  subst he1 he3
  exact ⟨_, _, by rw [List.length_map], Nat.le_refl _, hv1, hb⟩
set_option maxRecDepth 100000 in
theorem fields_any (s : ByteArray) (w : World) (hs : s.size ≤ 100000) : Calls Tryd.prog 26 #[.string s] w (RetLs w (fld (by_ s))) := by
  obtain ⟨x, Hx⟩ : ∃ x, Hid (x = fld (by_ s)) := ⟨_, rfl⟩
  rw [← Hx.out]
  go_enter Tryd.func26, Tryd.ntmps26
  go_wp2_with fail
  refine (fieldsFunc_any s _ hs).mono ?_
  rw [← Hx.out]
  rintro e w2 ⟨A, c, rfl, hc, hv, hu⟩
  have Hc := hide hc
  have Hv := hide hv
  clear hc hv
  go_wp2
  go_ret
  exact ⟨A, c, rfl, Hc.out, Hv.out, hu⟩
theorem splG_none (l : List Nat) (h : ∀ x ∈ l, (x != 10) = true) : ∀ cur, splG cur l = [cur ++ l] := by
  induction l with
  | nil => intro cur; simp [splG]
  | cons c r ih =>
    intro cur
    have hc := h c (by simp)
    rw [splG, if_neg (by simpa using hc), ih (fun x hx => h x (by simp [hx]))]
    simp
theorem splG_cut (a r : List Nat) (h : ∀ x ∈ a, (x != 10) = true) : ∀ cur, splG cur (a ++ 10 :: r) = (cur ++ a) :: splG [] r := by
  induction a with
  | nil => intro cur; simp [splG]
  | cons c a ih =>
    intro cur
    have hc := h c (by simp)
    rw [List.cons_append, splG, if_neg (by simpa using hc), ih (fun x hx => h x (by simp [hx]))]
    simp
theorem splB : ∀ (n : Nat) (s : ByteArray), s.size ≤ n → Lib.splitB ⟨#[10]⟩ 0 (Lib.countB s ⟨#[10]⟩) s = (splG [] (by_ s)).map bs := by
  intro n
  induction n with
  | zero =>
    intro s hs
    have h0 : by_ s = [] := List.length_eq_zero_iff.1 (by rw [by_len]; omega)
    have hi : Lib.indexB s ⟨#[10]⟩ = -1 := by
      show Lib.index s.data.toList [10] = -1
      have hd0 : s.data.toList = [] := List.length_eq_zero_iff.1 (by rw [Array.length_toList]; show s.size = 0; omega)
      rw [hd0]
      rfl
    rw [Lib.countB_miss s _ hi, Lib.splitB_zero, h0]
    have hs0 : s = bs [] := by conv => lhs; rw [← bs_by s, h0]
    exact congrArg (fun t => [t]) hs0
  | succ n ih =>
    intro s hs
    have hlen : s.data.toList.length = s.size := by rw [Array.length_toList]; rfl
    have hcl := cnt_le (fun x => x != 10) (by_ s)
    by_cases hc : cnt (fun x => x != 10) (by_ s) < (by_ s).length
    · have hi : Lib.indexB s ⟨#[10]⟩ = (cnt (fun x => x != 10) (by_ s) : Int) := by
        show Lib.index s.data.toList [10] = _
        rw [index_lf, if_pos (by rw [hlen, ← by_len]; exact hc)]
        rfl
      have hd := drop_at (by_ s) _ hc
      have h10 : (by_ s).getD (cnt (fun x => x != 10) (by_ s)) 0 = 10 := by
        have := cnt_stop (fun x => x != 10) (by_ s) hc
        simpa using this
      rw [h10] at hd
      have hall := cnt_take (fun x => x != 10) (by_ s)
      generalize cnt (fun x => x != 10) (by_ s) = k at *
      have hsplit : by_ s = (by_ s).take k ++ 10 :: (by_ s).drop (k + 1) := by rw [← hd]; exact (List.take_append_drop k (by_ s)).symm
      rw [by_len] at hc
      rw [Lib.countB_hit s _ k (by decide) hi, Nat.add_comm 1, Lib.splitB_hit _ _ _ _ k hi]
      have he : by_ (s.extract (k + 1) s.size) = (by_ s).drop (k + 1) := by
        rw [by_extract, List.take_of_length_le (by rw [List.length_drop, by_len]; omega)]
      have h1 : s.extract 0 (k + 0) = bs ((by_ s).take k) := by rw [ext_bs]; rfl
      rw [h1]
      have ih2 := ih (s.extract (k + 1) s.size) (by rw [ByteArray.size_extract]; omega)
      rw [he] at ih2
      show _ :: Lib.splitB ⟨#[10]⟩ 0 (Lib.countB (s.extract (k + 1) s.size) ⟨#[10]⟩) (s.extract (k + 1) s.size) = _
      rw [ih2]
      conv => rhs; rw [hsplit, splG_cut _ _ hall]
      rfl
    · have hi : Lib.indexB s ⟨#[10]⟩ = -1 := by
        show Lib.index s.data.toList [10] = -1
        rw [index_lf, if_neg]
        rw [hlen, ← by_len]
        exact hc
      rw [Lib.countB_miss s _ hi, Lib.splitB_zero, splG_none]
      · show [s] = [bs ([] ++ by_ s)]
        rw [List.nil_append, bs_by]
      · have hall := cnt_take (fun x => x != 10) (by_ s)
        rw [List.take_of_length_le (by omega)] at hall
        exact hall
/-- What Split returns at line feeds. -/
def RetSp (w : World) (l : List (List Nat)) (e : Ending) (w' : World) : Prop := e = .returned (.slice (some ⟨w.heap.size, 0, none⟩) l.length l.length) ∧ w' = w.alloc (.cells (sb l).toArray 9)
theorem split_any (s : ByteArray) (w : World) (hs : s.size ≤ 100000) (hTab : Tabs w) : Calls Tryd.prog 39 #[.string s, .string ⟨#[10]⟩] w (RetSp w (splG [] (by_ s))) := by
  obtain ⟨m, hm⟩ := hTab.max
  have hB := splB s.size s (Nat.le_refl _)
  have hN := Lib.splitB_all ⟨#[10]⟩ (by decide) 0 _ s rfl
  rw [hB, List.length_map] at hN
  refine (Tryd.strings_Split s ⟨#[10]⟩ m w (by omega) hm (by decide)).mono ?_
  rintro e w' ⟨rfl, rfl⟩
  refine ⟨by rw [hN], ?_⟩
  rw [hB]
  rfl
theorem splG_len (l : List Nat) : ∀ cur, (splG cur l).length ≤ l.length + 1 := by
  induction l with
  | nil => intro cur; simp [splG]
  | cons c r ih =>
    intro cur
    unfold splG
    split
    · have := ih []; simp only [List.length_cons]; omega
    · have := ih (cur ++ [c]); simp only [List.length_cons]; omega
theorem vals_new (w : World) (l : List Value) (t : TypeId) : Vals (w.alloc (.cells l.toArray t)) (some ⟨w.heap.size, 0, none⟩) l := by
  refine Or.inr ⟨_, rfl, by simp, fun j x hx => ?_⟩
  have ha : ((⟨w.heap.size, 0, none⟩ : Addr).add j) = ⟨w.heap.size, j, none⟩ := by unfold Addr.add; split <;> simp_all
  rw [ha, World.cell?_alloc_new, List.getElem?_toArray]
  exact hx
theorem Vals.left {w : World} {A : Option Addr} {l m : List Value} (h : Vals w A (l ++ m)) : Vals w A l := by
  rcases h with h | ⟨ad, hA, hb, hc⟩
  · exact Or.inl (List.append_eq_nil_iff.1 h).1
  · refine Or.inr ⟨ad, hA, hb, fun j x hx => hc j x ?_⟩
    rw [List.getElem?_append_left (List.getElem?_eq_some_iff.1 hx).1]
    exact hx
set_option maxRecDepth 100000 in
set_option maxHeartbeats 1000000 in
theorem lines_any (s : ByteArray) (w : World) (hs : s.size ≤ 100000) (hTab : Tabs w) : Calls Tryd.prog 23 #[.string s] w (RetLs w (lns (by_ s))) := by
  have HTab := hide hTab
  clear hTab
  obtain ⟨p, Hp⟩ : ∃ p, Hid (p = splG [] (by_ s)) := ⟨_, rfl⟩
  obtain ⟨x, Hx⟩ : ∃ x, Hid (x = lns (by_ s)) := ⟨_, rfl⟩
  have Hpx := hide (splG_lns (by_ s) [])
  rw [← Hp.out, show lnsG [] (by_ s) = x from Hx.out.symm] at Hpx
  rw [← Hx.out]
  have hpl : 0 < p.length := by rw [Hp.out]; exact List.length_pos_iff.2 (splG_ne _ _)
  obtain ⟨n, Hn⟩ : ∃ n, Hid (n + 1 = p.length) := ⟨p.length - 1, by show p.length - 1 + 1 = _; omega⟩
  obtain ⟨N, HN⟩ : ∃ N, Hid (N = p.length) := ⟨_, rfl⟩
  have hNn : (N : Int) - 1 = (n : Int) := by rw [HN.out, ← Hn.out]; omega
  have hnN : n < N := by rw [HN.out, ← Hn.out]; omega
  obtain ⟨z, Hz⟩ : ∃ z, Hid (z = bs (p.getD n [])) := ⟨_, rfl⟩
  have hget : (sb p)[n]? = some (.string z) := by
    rw [Hz.out]
    unfold sb ss
    rw [List.map_map, List.getElem?_map, List.getD, List.getElem?_eq_getElem (by have := Hn.out; omega)]
    rfl
  have hlast : Hid (p.getLast? = some (p.getD n [])) := by
    show _ = _
    rw [List.getLast?_eq_getElem?, List.getD, show p.length - 1 = n by have := Hn.out; omega, List.getElem?_eq_getElem (by have := Hn.out; omega)]
    rfl
  have hbig : N ≤ 100001 := by rw [HN.out, Hp.out]; have := splG_len (by_ s) []; rw [by_len] at this; omega
  rcases Hpx.out with ⟨hpx, hl⟩ | hpx
  · have hzl : 0 < z.size := by
      rw [Hz.out, bs_size]
      rw [hlast.out] at hl
      exact List.length_pos_iff.2 (fun e => hl (by rw [e]))
    obtain ⟨e1, e2⟩ := toList_ne z hzl
    have HX := hide hpx
    clear hpx hl hzl
    go_enter Tryd.func23, Tryd.ntmps23
    go_wp2_with fail
    refine (split_any s _ hs HTab.out).mono ?_
    rw [← Hp.out]
    unfold RetSp
    rw [← HN.out]
    rintro e w2 ⟨rfl, rfl⟩
    obtain ⟨W1, HW1⟩ : ∃ W1, Hid (W1 = w.alloc (.cells (sb p).toArray 9)) := ⟨_, rfl⟩
    rw [← HW1.out]
    have hcell : W1.cell? ⟨w.heap.size, n, none⟩ = some (.string z) := by rw [HW1.out, World.cell?_alloc_new, List.getElem?_toArray]; exact hget
    have hup : Up w W1 := by rw [HW1.out]; exact (Up.refl w).alloc _
    clear hget
    go_wp2
    go_ret
    exact ⟨some ⟨w.heap.size, 0, none⟩, N, by rw [← HX.out, ← HN.out]; rfl, by rw [← HX.out, ← HN.out]; exact Nat.le_refl _, by rw [← HX.out, HW1.out]; exact vals_new w (sb p) _, hup⟩
  · have hzl : z.size = 0 := by
      have h2 := hlast.out
      have h3 : p.getLast? = some [] := by rw [hpx]; simp
      rw [h3] at h2
      injection h2 with h2
      rw [Hz.out, bs_size, ← h2]
      rfl
    obtain ⟨e1, e2⟩ := toList_nil z hzl
    have HX := hide hpx
    have HL : Hid (n = x.length) := by show _ = _; have h1 := Hn.out; rw [hpx, List.length_append] at h1; simp at h1; exact h1
    clear hpx hzl
    go_enter Tryd.func23, Tryd.ntmps23
    go_wp2_with fail
    refine (split_any s _ hs HTab.out).mono ?_
    rw [← Hp.out]
    unfold RetSp
    rw [← HN.out]
    rintro e w2 ⟨rfl, rfl⟩
    obtain ⟨W1, HW1⟩ : ∃ W1, Hid (W1 = w.alloc (.cells (sb p).toArray 9)) := ⟨_, rfl⟩
    rw [← HW1.out]
    have hcell : W1.cell? ⟨w.heap.size, n, none⟩ = some (.string z) := by rw [HW1.out, World.cell?_alloc_new, List.getElem?_toArray]; exact hget
    have hup : Up w W1 := by rw [HW1.out]; exact (Up.refl w).alloc _
    clear hget
    go_wp2
    go_ret
    exact ⟨some ⟨w.heap.size, 0, none⟩, N, by rw [← HL.out]; rfl, by rw [← HL.out]; omega, by rw [HW1.out]; have h9 := vals_new w (sb p) 9; rw [show sb p = sb x ++ sb [[]] by rw [← sb_append, ← HX.out]] at h9 ⊢; exact h9.left, hup⟩
end Go.Proofs.YtnhncakkbfjdjaaDoor
