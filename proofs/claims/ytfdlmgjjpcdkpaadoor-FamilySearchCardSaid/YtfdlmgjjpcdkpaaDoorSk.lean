/- Walks: the text of a set, by both. -/
import Derived.Test.YtfdlmgjjpcdkpaaDoorFq
import Derived.Test.YtfdlmgjjpcdkpaaDoorShelf
namespace Go.Proofs.YtfdlmgjjpcdkpaaDoor
open Go.RowKit Go.Sort

def bu (l : List UInt8) : ByteArray := ⟨l.toArray⟩
theorem bu_app (a b : List UInt8) : bu a ++ bu b = bu (a ++ b) := by
  unfold bu
  rw [ByteArray.mk_append_mk]
/-- The members' texts, with spaces between them. -/
def fmU (M : List Nat) : List UInt8 := Lib.join (M.map Lib.decDigits) [32]
theorem fmU_snoc (M : List Nat) (i : Nat) : fmU (M ++ [i]) = fmU M ++ (if M.length = 0 then [] else [32]) ++ Lib.decDigits i := by
  unfold fmU
  cases M with
  | nil => simp [Lib.join_one, Lib.join_nil]
  | cons x r =>
    simp only [List.map_append, List.map_cons, List.cons_append, Lib.join_cons, List.length_cons]
    simp [Lib.joinTail]
theorem dec_len {i : Nat} (h : i < 16) : (Lib.decDigits i).length ≤ 2 := by
  rw [Lib.decDigits]
  split
  · simp
  · rw [Lib.decDigits, dif_pos (by omega)]
    simp
theorem fm_len (M : List Nat) (h : ∀ i ∈ M, i < 16) : (fmU M).length ≤ 3 * M.length := by
  have key : ∀ r : List Nat, (∀ i ∈ r, i < 16) → Lib.lens (r.map Lib.decDigits) ≤ 2 * r.length := by
    intro r
    induction r with
    | nil => intro _; simp [Lib.lens]
    | cons y r ih =>
      intro hr
      have h1 := ih (fun i hi => hr i (by simp [hi]))
      have h2 := dec_len (hr y (by simp))
      simp only [Lib.lens, List.map_cons, List.sum_cons, List.length_cons, List.map_map] at h1 ⊢
      omega
  unfold fmU
  cases M with
  | nil => simp [Lib.join_nil]
  | cons x r =>
    have h1 := key r (fun i hi => h i (by simp [hi]))
    have h2 := dec_len (h x (by simp))
    rw [List.map_cons, Lib.join_cons, List.length_append, Lib.joinTail_length]
    simp only [List.length_map, List.length_cons, List.length_nil]
    omega
/-- The text of a set. -/
def txU (s : Nat) : List UInt8 := (123 :: fmU (mem 16 s)) ++ [125]
theorem itoa_any (i : Nat) (w : World) (h : i < 100) : Calls Tryd.prog 74 #[.int .i64 (i : Int)] w fun e w' => e = .returned (.string (bu (Lib.decDigits i))) ∧ w' = w := Tryd.strconv_Itoa_small i h w
theorem sz_map (M : List Nat) : ((M.map fun i => bu (Lib.decDigits i)).map fun (b : ByteArray) => b.data.toList) = M.map Lib.decDigits := by
  rw [List.map_map]
  refine List.map_congr_left fun i _ => ?_
  simp [bu]
theorem join_any (v : Value) (M : List Nat) (w : World) (base : Nat) (hown : w.ownsRow base 9 1 v M.length (ss (M.map fun i => bu (Lib.decDigits i)))) (h : ∀ i ∈ M, i < 16) (hl : M.length ≤ 16) :
    Calls Tryd.prog 61 #[v, .string ⟨#[32]⟩] w (RetV w (.string (bu (fmU M)))) := by
  rcases hown.2 with ⟨rfl, h0⟩ | ⟨g, cap, cur, rfl, hb, hg, hnc, _⟩
  · have : M = [] := List.length_eq_zero_iff.1 h0
    subst this
    refine (Tryd.strings_Join_none none 0 ⟨#[32]⟩ w).mono ?_
    rintro e w' ⟨rfl, rfl⟩
    exact ⟨rfl, Up.refl _⟩
  · obtain ⟨A1, c1, he, _, hV, _, _⟩ := own_vals hown
    cases he
    have hj := Tryd.strings_Join g 0 cap (M.map fun i => bu (Lib.decDigits i)) ⟨#[32]⟩ w (fun j x hx => by
        obtain ⟨ad, hAd, _, hc⟩ := hV.at_ (k := j) (x := .string x) (by simp only [ss, List.getElem?_map, hx, Option.map_some])
        injection hAd with hAd
        subst hAd
        rw [← hc]
        congr 1
        unfold Addr.add
        split <;> simp_all) (Array.getElem?_eq_some_iff.1 hg).1 (by rw [List.length_map]; omega) (by rw [List.length_map]; exact hnc) (by
        rw [sz_map]
        have := fm_len M h
        unfold fmU at this
        show (Lib.join (M.map Lib.decDigits) [32]).length ≤ _
        omega)
    rw [List.length_map, sz_map] at hj
    refine hj.mono ?_
    rintro e w' ⟨rfl, hu⟩
    exact ⟨rfl, hu⟩
theorem wd_at {M : List Nat} {k : Nat} (h : k < M.length) : M.take (k + 1) = M.take k ++ [M[k]'h] := by rw [List.take_add_one, List.getElem?_eq_getElem h]; rfl
set_option maxRecDepth 100000 in
set_option maxHeartbeats 4000000 in
theorem format_any (s : Nat) (w : World) (hT : Tabs w) (hs : s < 65536) : Calls Tryd.prog 60 #[.int .u16 (s : Int)] w (RetV w (.string (bu (txU s)))) := by
  go_enter Tryd.func60, Tryd.ntmps60
  go_wp2_with fail
  refine (members_any s w hT hs).mono ?_
  rintro e w1 ⟨v, rfl, hown, hu1⟩
  obtain ⟨M, HM⟩ : ∃ M, Hid (M = mem 16 s) := ⟨_, rfl⟩
  have Hm : Hid (cnt s = M.length) := by show _ = _; rw [HM.out]; rfl
  have H16 : Hid (∀ i ∈ M, i < 16) := by show ∀ i ∈ M, i < 16; rw [HM.out]; exact fun i hi => mem_lt hi
  obtain ⟨m, hm⟩ : ∃ m, cnt s = m := ⟨_, rfl⟩
  have hm16 : m ≤ 16 := by rw [← hm]; exact cnt_le s
  rw [hm] at hown Hm
  rw [← HM.out] at hown
  clear hm
  obtain ⟨A1, c1, rfl, hc1, hV1, _, _⟩ := own_vals hown
  clear hown
  go_wp2
  go_loopw [3, 9] (fun v3 v9 wr => ∃ k : Nat, v9 = .int .i64 (k : Int) ∧ k ≤ m ∧ wr.ownsRow w1.heap.size 9 1 v3 k (ss ((M.take k).map fun i => bu (Lib.decDigits i))) ∧ Up w1 wr) (fun _ v9 _ => m - (intOf v9).toNat)
  case atStart => exact ⟨0, rfl, by omega, World.ownsRow_nil _ _ _ _, Up.refl _⟩
  case round =>
    obtain ⟨k, rfl, hk, hown, hup⟩ := hrel
    have hsz := hup.size
    have hsz1 := hu1.size
    by_cases hlt : k < m
    · have hk1 : k < M.length := by rw [← Hm.out]; exact hlt
      obtain ⟨i, Hi⟩ : ∃ i, Hid (i = M[k]'hk1) := ⟨_, rfl⟩
      have hi16 : i < 16 := by rw [Hi.out]; exact H16.out _ (List.getElem_mem hk1)
      have hv := ns_at hk1
      rw [← Hi.out] at hv
      obtain ⟨ad, hAd, hb, hcell⟩ := (hV1.up hup).at_ hv
      subst hAd
      obtain ⟨T, HTk⟩ : ∃ T, Hid (T = (M.take k).map fun i => bu (Lib.decDigits i)) := ⟨_, rfl⟩
      obtain ⟨y, Hy⟩ : ∃ y, Hid (y = bu (Lib.decDigits i)) := ⟨_, rfl⟩
      have HT2 : Hid ((M.take (k + 1)).map (fun i => bu (Lib.decDigits i)) = T ++ [y]) := by
        show _ = _
        rw [wd_at hk1, List.map_append, HTk.out, Hy.out, ← Hi.out]
        rfl
      have hit := itoa_any i wr (by omega)
      rw [← Hy.out] at hit
      rw [← HTk.out] at hown
      clear hv hV1
      go_wp2_with fail
      refine hit.mono ?_
      rintro e w2 ⟨rfl, rfl⟩
      go_wp2_with (at_builtin; refine wp_appV rfl _ _ 67 9 rfl w1.heap.size (.string ⟨#[]⟩) 16 Tryd.underlying67 Tryd.info9 rfl (by decide) _ k _ rfl (hown.alloc _) (some ⟨w2.heap.size, 0, none⟩) 1 1 (ss [y]) rfl rfl (ss_one _) (vals_one _ _ _) (by omega) (by simp; omega) ?_; intro v1 w3 hown1 hgrow1)
      go_roundw
      case rel => exact ⟨k + 1, by go_num, by omega, by rw [HT2.out, ss_append]; exact hown1, up_append hup hown hgrow1⟩
      case measure => simp [intOf]; omega
    · obtain rfl : k = m := by omega
      have hown2 := hown
      rw [List.take_of_length_le (by rw [Hm.out]; exact Nat.le_refl _), show k = M.length from Hm.out] at hown2
      have hj := join_any _ M wr w1.heap.size hown2 H16.out (by rw [← Hm.out]; exact hm16)
      obtain ⟨jn, Hjn⟩ : ∃ jn, Hid (jn = bu (fmU M)) := ⟨_, rfl⟩
      rw [← Hjn.out] at hj
      have z1 : jn.size ≤ 48 := by
        rw [Hjn.out]
        show (fmU M).toArray.size ≤ 48
        have := fm_len M H16.out
        rw [← Hm.out] at this
        simp
        omega
      go_wp2_with fail
      refine hj.mono ?_
      rintro e w2 ⟨rfl, hu2⟩
      go_wp2
      go_ret
      refine ⟨?_, (hu1.trans hup).trans hu2⟩
      show Ending.returned (Value.string ((bu [123] ++ jn) ++ bu [125])) = _
      rw [Hjn.out, bu_app, bu_app, HM.out]
      rfl
end Go.Proofs.YtfdlmgjjpcdkpaaDoor
