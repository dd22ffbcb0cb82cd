/- Walks: a text read as a set, by both. -/
import Derived.Test.YthepjpahabcpkaaDoorSt
namespace Go.Proofs.YthepjpahabcpkaaDoor
open Go.RowKit Go.Shelf

theorem ss_at {l : List ByteArray} {k : Nat} (h : k < l.length) : (ss l)[k]? = some (.string (l[k]'h)) := by simp [ss, h]
/-- What reading comes to behind the words. -/
def parR (b : List UInt8) : Option Nat → Nat × Int
  | some p => if txU p = b then (p, 0) else (0, 2)
  | none => (0, 2)
theorem parseU_eq (b : List UInt8) : parseU b = parR b (lp 0 (wdsU b)) := by
  unfold parseU parR
  cases lp 0 (wdsU b) <;> rfl
theorem bu_inj {a b : List UInt8} : bu a = bu b ↔ a = b := by
  constructor
  · intro h
    have := congrArg (fun (x : ByteArray) => x.data.toList) h
    simpa [bu] using this
  · rintro rfl; rfl
theorem str_ne {a b : ByteArray} (h : a ≠ b) : (a.toList == b.toList) = false := by
  rw [beq_eq_false_iff_ne]
  intro e
  rw [Lib.toList_data, Lib.toList_data] at e
  exact h (ByteArray.ext (Array.toList_inj.1 e))
set_option maxRecDepth 100000 in
set_option maxHeartbeats 4000000 in
theorem parse_any (b : List UInt8) (w : World) (hT : PT w) (hl : b.length ≤ 1000) : Calls Tryd.prog 35 #[.string (bu b)] w (RetE w (parseU b)) := by
  obtain ⟨S, HS⟩ : ∃ S, Hid (S = parR b (lp 0 (wdsU b))) := ⟨_, rfl⟩
  rw [parseU_eq, ← HS.out]
  obtain ⟨B, HB⟩ : ∃ B, Hid (B = bu b) := ⟨_, rfl⟩
  obtain ⟨T, HTr⟩ : ∃ T, Hid (T = bu (Lib.trimS b [123, 125])) := ⟨_, rfl⟩
  obtain ⟨Ws, HW⟩ : ∃ Ws, Hid (Ws = wdsU b) := ⟨_, rfl⟩
  have htr := fun w => trim_any b w hl
  have hfd := fun w hT => fields_any (Lib.trimS b [123, 125]) w hT (Nat.le_trans (trim_len _ _) hl)
  have hwl := wds_len b
  rw [← HB.out, ← HTr.out] at htr
  rw [← HTr.out, show Lib.fieldsD (Lib.trimS b [123, 125]) = wdsU b from rfl, ← HW.out] at hfd
  rw [← HW.out] at hwl HS
  have HPT := hide hT
  have HWl := hide hwl.2
  obtain ⟨n, Hn⟩ : ∃ n, Hid (n = Ws.length) := ⟨_, rfl⟩
  have hn : n ≤ 1000 := by rw [Hn.out]; omega
  rw [← Hn.out] at hfd
  rw [← HB.out]
  clear hT hwl
  go_enter Tryd.func35, Tryd.ntmps35
  go_wp2_with fail
  refine (htr _).mono ?_
  rintro e w1 ⟨rfl, hu1⟩
  go_wp2_with fail
  refine (hfd w1 (HPT.out.up (((Up.refl w).alloc _).trans hu1))).mono ?_
  rintro e w2 ⟨A0, rfl, hown, hu2⟩
  obtain ⟨A1, c1, he, _, hV1, _, hN0⟩ := own_vals hown
  cases he
  have hN1 : NewB (w.heap.size + 1) (some ⟨A0, 0, none⟩) := by
    have hz := hu1.size
    rw [World.size_alloc] at hz
    exact hN0.mono hz
  have hu12 := hu1.trans hu2
  have hup1 : Up w w2 := ((Up.refl w).alloc _).trans_below (Below.mono hu12 (by simp))
  have hbox1 : Boxed w2 w.heap.size 25 (.int .u16 ((0 : Nat) : Int)) := (Boxed.new w _ _).kept (up_grown hu12) (by simp)
  clear hown hN0 hu1 hu2 hu12 htr hfd
  go_wp2
  go_loopw [13] (fun v wr => ∃ k acc : Nat, v = .int .i64 (k : Int) ∧ k ≤ n ∧ acc < 65536 ∧ Boxed wr w.heap.size 25 (.int .u16 (acc : Int)) ∧ Up w wr ∧ Vals wr (some ⟨A0, 0, none⟩) (ss (Ws.map bu)) ∧ Hid (S = parR b (lp acc (Ws.drop k)))) (fun v _ => n - (intOf v).toNat)
  case atStart => exact ⟨0, 0, rfl, by omega, by omega, hbox1, hup1, hV1, HS.out⟩
  case round =>
    obtain ⟨k, acc, rfl, hk, hacc, hbox, hup, hV, HX⟩ := hrel
    by_cases hlt : k < n
    · have hk1 : k < Ws.length := by rw [← Hn.out]; exact hlt
      obtain ⟨x, Hx⟩ : ∃ x, Hid (x = Ws[k]'hk1) := ⟨_, rfl⟩
      have hxl : x.length ≤ 1000 := by rw [Hx.out]; exact Nat.le_trans (HWl.out _ (List.getElem_mem hk1)) hl
      obtain ⟨y, Hy⟩ : ∃ y, Hid (y = bu x) := ⟨_, rfl⟩
      have hv := ss_at (l := Ws.map bu) (k := k) (by rw [List.length_map]; exact hk1)
      rw [List.getElem_map, ← Hx.out, ← Hy.out] at hv
      obtain ⟨ad, hAd, hb, hcell⟩ := hV.at_ hv
      cases hAd
      have hcell2 : wr.cell? ⟨A0, k, none⟩ = some (.string y) := by
        rw [← hcell]
        congr 1
        unfold Addr.add
        split <;> simp_all
      clear hcell
      have hat := fun w hT => atoi_any x w hT hxl
      rw [← Hy.out] at hat
      have HX2 : Hid (S = parR b (lp acc (x :: Ws.drop (k + 1)))) := by
        show S = _
        rw [HX.out, drop_at Ws k hk1, ← Hx.out]
      clear hv HX
      go_wp2_with fail
      refine (hat wr (HPT.out.up hup)).mono ?_
      rintro e w3 ⟨v, er, rfl, hu3, hcase⟩
      have hup3 := hup.trans hu3
      have hbox3 : Boxed w3 w.heap.size 25 (.int .u16 (acc : Int)) := (hu3.block _ hbox.lt).trans hbox
      have hV3 := hV.up hu3
      rcases hcase with ⟨rfl, hok⟩ | ⟨⟨tt, pp, rfl⟩, hno⟩
      · have HX3 : Hid (S = if (addS acc v).2 = 0 then parR b (lp (addS acc v).1 (Ws.drop (k + 1))) else (0, 2)) := by
          show S = _
          rw [HX2.out]
          simp only [lp, hok]
          split <;> rfl
        have hadd := add_any w.heap.size acc v w3 hbox3 hacc
        have hacc2 : (addS acc v).1 < 2 ^ 16 := addS_lt (by omega) hacc
        obtain ⟨p, hp⟩ : ∃ p, addS acc v = p := ⟨_, rfl⟩
        rw [hp] at hadd HX3 hacc2
        obtain ⟨acc2, er2⟩ := p
        dsimp only at hadd hacc2
        clear hp hok HX2 hat
        go_wp2_with fail
        refine hadd.mono ?_
        rintro e w4 ⟨rfl, hbox4, hg4⟩
        have hup4 : Up w w4 := hup3.grown hg4 (fun k e => by cases e; exact Nat.le_refl _)
        by_cases he : er2 = 0
        · subst he
          have HX4 : Hid (S = parR b (lp acc2 (Ws.drop (k + 1)))) := by show S = _; rw [HX3.out, if_pos rfl]
          have hV4 := hV3.other hN1 hg4
          go_wp2
          go_roundw
          case rel => exact ⟨k + 1, acc2, by go_num, by omega, hacc2, hbox4, hup4, hV4, HX4.out⟩
          case measure => simp [intOf]; omega
        · have HX4 : Hid (S = (0, 2)) := by show S = _; rw [HX3.out, if_neg he]
          have ne : (er2 != 0) = true := by rw [bne_iff_ne]; exact he
          go_wp2
          go_ret2
          exact ⟨by rw [HX4.out]; rfl, hup4⟩
      · have HX3 : Hid (S = (0, 2)) := by
          show S = _
          rw [HX2.out]
          simp only [lp]
          cases hr : Lib.atoiAll x with
          | ok z => exact absurd hr (hno z)
          | «syntax» => rfl
          | range => rfl
        clear hno HX2 hat
        go_wp2
        go_ret2
        exact ⟨by rw [HX3.out]; rfl, hup3⟩
    · obtain rfl : k = n := by omega
      have hc := hbox.cell
      have HX3 : Hid (S = if txU acc = b then (acc, 0) else (0, 2)) := by show S = _; rw [HX.out, List.drop_eq_nil_of_le (by rw [Hn.out]; omega)]; rfl
      obtain ⟨F, HF⟩ : ∃ F, Hid (F = bu (txU acc)) := ⟨_, rfl⟩
      have hfm := fun w hT => format_any acc w hT hacc
      rw [← HF.out] at hfm
      go_wp2_with fail
      refine (hfm _ (HPT.out.tabs.up hup)).mono ?_
      rintro e w3 ⟨rfl, hu3⟩
      have hc3 := (hu3.cell (cell_lt hc)).trans hc
      by_cases hq : F = B
      · have HX4 : Hid (S = (acc, 0)) := by show S = _; rw [HX3.out, if_pos (bu_inj.1 (by rw [← HF.out, ← HB.out]; exact hq))]
        subst hq
        go_wp2
        go_ret2
        exact ⟨by rw [HX4.out]; rfl, hup.trans hu3⟩
      · have HX4 : Hid (S = (0, 2)) := by show S = _; rw [HX3.out, if_neg (fun h => hq (by rw [HF.out, HB.out, h]))]
        have q3 := str_ne hq
        clear hq
        go_wp2
        go_ret2
        exact ⟨by rw [HX4.out]; rfl, hup.trans hu3⟩
end Go.Proofs.YthepjpahabcpkaaDoor
