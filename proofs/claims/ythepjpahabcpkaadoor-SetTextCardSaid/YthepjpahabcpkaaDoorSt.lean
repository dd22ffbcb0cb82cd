/- Walks: a text read as a set, by set.Parse. -/
import Derived.Test.YthepjpahabcpkaaDoorSs
import Derived.Shelf.Strings.SlTrimAscii
import Derived.Lib.SmallJoins
namespace Go.Proofs.YthepjpahabcpkaaDoor
open Go.RowKit Go.Shelf

/-- The tables of Go's library that reading a text wants. -/
structure PT (w : World) : Prop where
  tabs : Tabs w
  sp : Lib.TabIs Tryd.prog w "strings.asciiSpace" .u8 Lib.asciiSpaceTab
  wh : Lib.WhiteTab 2 w
  sy : ∃ tp p, w.cell? ⟨3, 0, none⟩ = some (.iface tp p)
  rg : ∃ tp p, w.cell? ⟨4, 0, none⟩ = some (.iface tp p)
theorem cell_up {w w' : World} {p : Addr} {v : Value} (h : w.cell? p = some v) (hu : Up w w') : w'.cell? p = some v := (hu.cell (cell_lt h)).trans h
theorem PT.up {w w' : World} (h : PT w) (hu : Up w w') : PT w' :=
  ⟨h.tabs.up hu, tabIs_up h.sp hu, WhiteTab_below h.wh hu, by obtain ⟨tp, p, q⟩ := h.sy; exact ⟨tp, p, cell_up q hu⟩, by obtain ⟨tp, p, q⟩ := h.rg; exact ⟨tp, p, cell_up q hu⟩⟩
theorem trim_any (b : List UInt8) (w : World) (hl : b.length ≤ 1000) : Calls Tryd.prog 59 #[.string (bu b), .string ⟨#[123, 125]⟩] w (RetV w (.string (bu (Lib.trimS b [123, 125])))) := by
  refine (Any.strings_Trim_laid Tryd.lays160 (by kernel_rfl) (bu b) ⟨#[123, 125]⟩ w (by show b.toArray.size ≤ _; simp; omega) (by decide) (ascii_of_all (by decide))).mono ?_
  rintro e w' ⟨rfl, hb⟩
  exact ⟨rfl, hb⟩
theorem fieldsGoD_len : ∀ (f : Nat) (cur l : List UInt8), (Lib.fieldsGoD f cur l).length ≤ l.length + (if cur = [] then 0 else 1) ∧ ∀ x ∈ Lib.fieldsGoD f cur l, x.length ≤ cur.length + l.length
  | 0, cur, l => by
    unfold Lib.fieldsGoD
    split
    · exact ⟨by simp, fun x hx => by cases hx⟩
    · exact ⟨by simp, fun x hx => by rw [List.mem_singleton] at hx; subst hx; omega⟩
  | f + 1, cur, l => by
    have hw := Lib.decodeL_width l
    unfold Lib.fieldsGoD
    split
    · split
      · exact ⟨by simp, fun x hx => by cases hx⟩
      · exact ⟨by simp, fun x hx => by rw [List.mem_singleton] at hx; subst hx; omega⟩
    · rename_i hne
      have hpos : 0 < l.length := List.length_pos_iff.2 hne
      split
      · obtain ⟨h1, h2⟩ := fieldsGoD_len f [] (l.drop (Lib.decodeL l).2)
        rw [List.length_drop] at h1
        simp only [if_true] at h1
        refine ⟨?_, fun x hx => ?_⟩
        · rw [List.length_append]
          split <;> simp <;> omega
        · rcases List.mem_append.1 hx with hx | hx
          · split at hx
            · cases hx
            · rw [List.mem_singleton] at hx; subst hx; omega
          · have := h2 x hx
            rw [List.length_drop] at this
            simp at this
            omega
      · obtain ⟨h1, h2⟩ := fieldsGoD_len f (cur ++ l.take (Lib.decodeL l).2) (l.drop (Lib.decodeL l).2)
        rw [List.length_drop] at h1
        refine ⟨?_, fun x hx => ?_⟩
        · have : (if cur ++ l.take (Lib.decodeL l).2 = [] then 0 else 1) ≤ 1 := by split <;> omega
          omega
        · have := h2 x hx
          rw [List.length_drop, List.length_append, List.length_take] at this
          omega
theorem trim_len (b cs : List UInt8) : (Lib.trimS b cs).length ≤ b.length := by
  have d : ∀ (p : UInt8 → Bool) (l : List UInt8), (l.dropWhile p).length ≤ l.length := fun p l => (List.dropWhile_sublist p).length_le
  unfold Lib.trimS Lib.trimLeftS Lib.trimRightS
  refine Nat.le_trans (d _ _) ?_
  rw [List.length_reverse]
  refine Nat.le_trans (d _ _) ?_
  rw [List.length_reverse]
  exact Nat.le_refl _
theorem wds_len (b : List UInt8) : (wdsU b).length ≤ b.length ∧ ∀ x ∈ wdsU b, x.length ≤ b.length := by
  have h := trim_len b [123, 125]
  obtain ⟨h1, h2⟩ := fieldsGoD_len ((Lib.trimS b [123, 125]).length + 1) [] (Lib.trimS b [123, 125])
  simp only [if_true] at h1
  refine ⟨?_, fun x hx => ?_⟩
  · show (Lib.fieldsGoD _ _ _).length ≤ _
    omega
  · have := h2 x hx
    simp at this
    omega
theorem fields_any (b : List UInt8) (w : World) (hT : PT w) (hl : b.length ≤ 1000) : Calls Tryd.prog 58 #[.string (bu b)] w fun e w' => ∃ A, e = .returned (.slice (some ⟨A, 0, none⟩) (Lib.fieldsD b).length (Lib.fieldsD b).length) ∧
    w'.ownsRow w.heap.size 9 1 (.slice (some ⟨A, 0, none⟩) (Lib.fieldsD b).length (Lib.fieldsD b).length) (Lib.fieldsD b).length (ss ((Lib.fieldsD b).map bu)) ∧ Up w w' := by
  refine (Tryd.strings_Fields_any (bu b) w (by show b.toArray.size < _; simp; omega) hT.sp hT.wh).mono ?_
  rintro e w' ⟨A, rfl, _, hown, hb⟩
  refine ⟨A, rfl, ?_, hb⟩
  have e1 : ((Lib.fieldsD b).map fun x => Value.string ⟨x.toArray⟩) = ss ((Lib.fieldsD b).map bu) := by
    unfold ss
    rw [List.map_map]
    rfl
  rw [← e1]
  exact hown
theorem up_bytesWorld (w : World) (e : TypeId) (t : ByteArray) : Up w (Lib.bytesWorld w e t) := ⟨rfl, rfl, rfl, by rw [Lib.bytesWorld_size]; omega, fun k hk => Lib.bytesWorld_at_old w e t k hk⟩
theorem atoi_any (x : List UInt8) (w : World) (hT : PT w) (hl : x.length ≤ 1000) : Calls Tryd.prog 60 #[.string (bu x)] w fun e w' => ∃ (v : Int) (er : Value), e = .returned (.tuple #[.int .i64 v, er]) ∧ Up w w' ∧ ((er = .nilIface ∧ Lib.atoiAll x = .ok v) ∨ ((∃ t p, er = .iface t p) ∧ ∀ z, Lib.atoiAll x ≠ .ok z)) := by
  have hs : (bu x).size ≤ 1000 := by show x.toArray.size ≤ _; simp; omega
  have hx : (bu x).data.toList = x := by simp [bu]
  obtain ⟨r, hr⟩ : ∃ r, Lib.atoiAll x = r := ⟨_, rfl⟩
  rw [hr]
  cases r with
  | ok v =>
    refine (Tryd.strconv_Atoi_ok (bu x) (by omega) v (by rw [hx]; exact hr) w).mono ?_
    rintro e w' ⟨rfl, hw⟩
    refine ⟨v, _, rfl, ?_, .inl ⟨rfl, rfl⟩⟩
    rcases hw with rfl | ⟨t, rfl⟩
    · exact Up.refl _
    · exact up_bytesWorld _ _ _
  | «syntax» =>
    obtain ⟨tp, p, hc⟩ := hT.sy
    refine (Tryd.strconv_Atoi_syntax (bu x) (by omega) (by rw [hx]; exact hr) _ w hc (.inr ⟨_, _, rfl⟩)).mono ?_
    rintro e w' ⟨N, rfl, _, _, hb⟩
    exact ⟨_, _, rfl, hb, .inr ⟨⟨_, _, rfl⟩, fun z hz => by cases hz⟩⟩
  | range =>
    obtain ⟨tp, p, hc⟩ := hT.rg
    refine (Tryd.strconv_Atoi_range (bu x) (by omega) (by rw [hx]; exact hr) _ w hc (.inr ⟨_, _, rfl⟩)).mono ?_
    rintro e w' ⟨N, rfl, _, _, hb⟩
    exact ⟨_, _, rfl, hb, .inr ⟨⟨_, _, rfl⟩, fun z hz => by cases hz⟩⟩
end Go.Proofs.YthepjpahabcpkaaDoor
