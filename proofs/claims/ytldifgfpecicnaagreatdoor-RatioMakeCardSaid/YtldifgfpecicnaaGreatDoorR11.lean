/- Parse of the reference. -/
import Derived.Test.YtldifgfpecicnaaGreatDoorR10
namespace Go.Proofs.YtldifgfpecicnaaGreatDoor
open Go.RowKit

theorem at_slash {s : ByteArray} {k : Nat} (h : ix47 s = k) (hk : k < s.size) : ((s[k].toNat : Int) == 47) = true := by
  have h1 := (Lib.indexByte_some (o := k) h).1
  have e : s[k] = 47 := by
    obtain ⟨h2, h3⟩ := List.getElem?_eq_some_iff.1 h1
    rw [← h3]; rfl
  rw [e]; rfl
theorem no_slash {s : ByteArray} {j : Nat} (hj : j < s.size) (h : s.data.toList[j]? ≠ some 47) : ((s[j].toNat : Int) == 47) = false := by
  rw [beq_eq_false_iff_ne]
  intro e
  apply h
  have e2 : s[j].toNat = 47 := by omega
  rw [List.getElem?_eq_some_iff]
  refine ⟨by simpa using hj, ?_⟩
  have e3 : s[j] = 47 := UInt8.toNat_inj.1 e2
  rw [← e3]; rfl
theorem before_slash {s : ByteArray} {k j : Nat} (h : ix47 s = k) (hj : j < k) : (((s[j]'(by have := ix_lt h; omega)).toNat : Int) == 47) = false := no_slash _ ((Lib.indexByte_some (o := k) h).2 j hj)
theorem never_slash {s : ByteArray} {j : Nat} (h : ix47 s = -1) (hj : j < s.size) : ((s[j].toNat : Int) == 47) = false := no_slash _ (Lib.indexByte_none h j)
set_option maxRecDepth 100000 in
set_option maxHeartbeats 4000000 in
theorem rparst_1 (s : ByteArray) (k : Nat) (w : World)  (HK : Hid (ix47 s = k)) (hk : k < s.size) (hs : s.size ≤ 999) (hl : (s.extract 0 k).size ≤ 1000) (hr : ((s.extract (k + 1) s.size)).size ≤ 1000) (hb : okS (s.extract 0 k) = false) (hb2 : okS (s.extract (k + 1) s.size) = true) :
    Calls Tryz.prog 41 #[.string s] w (PFE w 0 0 2) := by
  have hupw : Up w w := Up.refl w
  go_enter Tryz.func41, Tryz.ntmps41
  go_wp2_with fail
  obtain ⟨wa1, hwa1⟩ : ∃ x, x = (w.alloc (.cells #[.bool false, .slice none 0 0, .bool false, .slice none 0 0] 29)) := ⟨_, rfl⟩
  have hup : Up w wa1 := by rw [hwa1]; exact ((Up.refl w).alloc _)
  have hzwa1 : w.heap.size ≤ w.heap.size := hupw.size
  replace hupw := hupw.trans hup
  clear hup
  have hk2 : Bk wa1 (w.heap.size) 29 #[.bool false, .slice none 0 0, .bool false, .slice none 0 0] := by
    have := (Bk.new w 29 #[.bool false, .slice none 0 0, .bool false, .slice none 0 0])
    rw [hwa1]; simpa using this
  rw [← hwa1]
  clear hwa1
  go_loop [4, 5, 6] (fun a b i => ∃ j : Nat, j ≤ k ∧ i = .int .i64 j ∧ a = .string s ∧ b = .string ⟨#[49]⟩) (fun _ _ i => s.size - (intOf i).toNat)
  case atStart => exact ⟨0, Nat.zero_le _, rfl, rfl, rfl⟩
  case round =>
    obtain ⟨j, hj, rfl, rfl, rfl⟩ := hrel
    have hjn : j < s.size := by omega
    by_cases hlt : j < k
    · have hnb := before_slash HK.out hlt
      go_wp2
      go_round
      case rel => exact ⟨j + 1, by omega, by go_num, rfl, rfl⟩
      case measure => simp [intOf]; omega
    · obtain rfl : j = k := by omega
      have hat := at_slash HK.out hjn
      have hw1 : IntKind.i64.wrap ((j : Int) + 1) = ((j + 1 : Nat) : Int) := by rw [IntKind.wrap_i64]; omega
      have hj0 : (0 : Int) ≤ (j : Int) := by omega
      go_wp2_with fail
      go_region
      obtain ⟨wr2, hwr2⟩ : ∃ x, x = wa1.drew := ⟨_, rfl⟩
      have hup : Up wa1 wr2 := by rw [hwr2]; exact (Up.refl wa1).drew
      replace hk2 := hk2.up hup
      replace hupw := hupw.trans hup
      clear hup
      rw [← hwr2]
      clear hwr2
      go_wp2_with fail
      refine (rparsN hl hb).mono ?_
      rintro e w3 ⟨v_4, rfl, h_4, hup⟩
      replace hk2 := hk2.up hup
      replace hupw := hupw.trans hup
      clear hup
      obtain ⟨s_4, A_4, n_4, c_4, rfl⟩ := h_4.agg
      go_wp2_with fail
      obtain ⟨wa5, hwa5⟩ : ∃ x, x = (w3.alloc (.cells #[.bool s_4, .slice A_4 n_4 c_4] 24)) := ⟨_, rfl⟩
      have hup : Up w3 wa5 := by rw [hwa5]; exact ((Up.refl w3).alloc _)
      have howa5 : w.heap.size < w3.heap.size := hk2.lt
      have hzwa5 : w.heap.size ≤ w3.heap.size := hupw.size
      replace hk2 := hk2.up hup
      replace hupw := hupw.trans hup
      clear hup
      have hk7 : Bk wa5 (w3.heap.size) 24 #[.bool s_4, .slice A_4 n_4 c_4] := by
        have := (Bk.new w3 24 #[.bool s_4, .slice A_4 n_4 c_4])
        rw [hwa5]; simpa using this
      rw [← hwa5]
      clear hwa5
      refine (rparsY hr hb2).mono ?_
      rintro e w6 ⟨v_7, rfl, h_7, hup⟩
      replace hk2 := hk2.up hup
      replace hk7 := hk7.up hup
      replace hupw := hupw.trans hup
      clear hup
      obtain ⟨s_7, A_7, n_7, c_7, rfl⟩ := h_7.agg
      have hk2c0 := hk2.cell (i := 0) rfl
      have hk2c1 := hk2.cell (i := 1) rfl
      have hk2c2 := hk2.cell (i := 2) rfl
      have hk2c3 := hk2.cell (i := 3) rfl
      have hk2l := hk2.lt
      have hk2f0 := hk2.frozen 0
      have hk2f1 := hk2.frozen 1
      have hk2f2 := hk2.frozen 2
      have hk2f3 := hk2.frozen 3
      go_wp2_with fail
      clear hk2c0 hk2c1 hk2c2 hk2c3 hk2l hk2f0 hk2f1 hk2f2 hk2f3
      obtain ⟨ws8, hws8⟩ : ∃ x, x = (st4 w6 w.heap.size (.bool false) (.slice none 0 0) (.bool false) (.slice none 0 0)) := ⟨_, rfl⟩
      replace hk7 := hk7.far4 (g' := w.heap.size) (by omega) (.bool false) (.slice none 0 0) (.bool false) (.slice none 0 0)
      rw [← hws8] at hk7
      replace hupw := hupw.st4 (g := w.heap.size) (by omega) (.bool false) (.slice none 0 0) (.bool false) (.slice none 0 0)
      rw [← hws8] at hupw
      replace hk2 := hk2.four (.bool false) (.slice none 0 0) (.bool false) (.slice none 0 0)
      rw [← hws8] at hk2
      have hszws8 : ws8.heap.size = w6.heap.size := by rw [hws8]; simp [st4]
      unfold st4 at hws8
      rw [← hws8]
      clear hws8
      obtain ⟨wa9, hwa9⟩ : ∃ x, x = (ws8.alloc (.cells #[.bool s_7, .slice A_7 n_7 c_7] 24)) := ⟨_, rfl⟩
      have hup : Up ws8 wa9 := by rw [hwa9]; exact ((Up.refl ws8).alloc _)
      have howa9 : w3.heap.size < w6.heap.size := by have := hk7.lt; omega
      have hzwa9 : w.heap.size ≤ w6.heap.size := by have := hupw.size; omega
      replace hk2 := hk2.up hup
      replace hupw := hupw.trans hup
      clear hup
      have hk9 : Bk wa9 (w6.heap.size) 24 #[.bool s_7, .slice A_7 n_7 c_7] := by
        have := (Bk.new ws8 24 #[.bool s_7, .slice A_7 n_7 c_7])
        rw [hwa9]; simpa [hszws8] using this
      rw [← hwa9]
      clear hwa9
      clear hszws8
      have hk2c0 := hk2.cell (i := 0) rfl
      have hk2c1 := hk2.cell (i := 1) rfl
      have hk2c2 := hk2.cell (i := 2) rfl
      have hk2c3 := hk2.cell (i := 3) rfl
      exact bodyPost_ret (v := .tuple #[.agg #[.bool false, .slice none 0 0, .bool false, .slice none 0 0], .int .i64 2]) (by simp [results, Tryz.results41, go_sem, hk2c0, hk2c1, hk2c2, hk2c3]) rfl ⟨_, rfl, Fz.mk (Iz.zero _) (Iz.zero _), hupw⟩
set_option maxRecDepth 100000 in
set_option maxHeartbeats 4000000 in
theorem rparst_1b (s : ByteArray) (k : Nat) (w : World)  (HK : Hid (ix47 s = k)) (hk : k < s.size) (hs : s.size ≤ 999) (hl : (s.extract 0 k).size ≤ 1000) (hr : ((s.extract (k + 1) s.size)).size ≤ 1000) (hb : okS (s.extract 0 k) = false) (hb2 : okS (s.extract (k + 1) s.size) = false) :
    Calls Tryz.prog 41 #[.string s] w (PFE w 0 0 2) := by
  have hupw : Up w w := Up.refl w
  go_enter Tryz.func41, Tryz.ntmps41
  go_wp2_with fail
  obtain ⟨wa1, hwa1⟩ : ∃ x, x = (w.alloc (.cells #[.bool false, .slice none 0 0, .bool false, .slice none 0 0] 29)) := ⟨_, rfl⟩
  have hup : Up w wa1 := by rw [hwa1]; exact ((Up.refl w).alloc _)
  have hzwa1 : w.heap.size ≤ w.heap.size := hupw.size
  replace hupw := hupw.trans hup
  clear hup
  have hk2 : Bk wa1 (w.heap.size) 29 #[.bool false, .slice none 0 0, .bool false, .slice none 0 0] := by
    have := (Bk.new w 29 #[.bool false, .slice none 0 0, .bool false, .slice none 0 0])
    rw [hwa1]; simpa using this
  rw [← hwa1]
  clear hwa1
  go_loop [4, 5, 6] (fun a b i => ∃ j : Nat, j ≤ k ∧ i = .int .i64 j ∧ a = .string s ∧ b = .string ⟨#[49]⟩) (fun _ _ i => s.size - (intOf i).toNat)
  case atStart => exact ⟨0, Nat.zero_le _, rfl, rfl, rfl⟩
  case round =>
    obtain ⟨j, hj, rfl, rfl, rfl⟩ := hrel
    have hjn : j < s.size := by omega
    by_cases hlt : j < k
    · have hnb := before_slash HK.out hlt
      go_wp2
      go_round
      case rel => exact ⟨j + 1, by omega, by go_num, rfl, rfl⟩
      case measure => simp [intOf]; omega
    · obtain rfl : j = k := by omega
      have hat := at_slash HK.out hjn
      have hw1 : IntKind.i64.wrap ((j : Int) + 1) = ((j + 1 : Nat) : Int) := by rw [IntKind.wrap_i64]; omega
      have hj0 : (0 : Int) ≤ (j : Int) := by omega
      go_wp2_with fail
      go_region
      obtain ⟨wr2, hwr2⟩ : ∃ x, x = wa1.drew := ⟨_, rfl⟩
      have hup : Up wa1 wr2 := by rw [hwr2]; exact (Up.refl wa1).drew
      replace hk2 := hk2.up hup
      replace hupw := hupw.trans hup
      clear hup
      rw [← hwr2]
      clear hwr2
      go_wp2_with fail
      refine (rparsN hl hb).mono ?_
      rintro e w3 ⟨v_4, rfl, h_4, hup⟩
      replace hk2 := hk2.up hup
      replace hupw := hupw.trans hup
      clear hup
      obtain ⟨s_4, A_4, n_4, c_4, rfl⟩ := h_4.agg
      go_wp2_with fail
      obtain ⟨wa5, hwa5⟩ : ∃ x, x = (w3.alloc (.cells #[.bool s_4, .slice A_4 n_4 c_4] 24)) := ⟨_, rfl⟩
      have hup : Up w3 wa5 := by rw [hwa5]; exact ((Up.refl w3).alloc _)
      have howa5 : w.heap.size < w3.heap.size := hk2.lt
      have hzwa5 : w.heap.size ≤ w3.heap.size := hupw.size
      replace hk2 := hk2.up hup
      replace hupw := hupw.trans hup
      clear hup
      have hk7 : Bk wa5 (w3.heap.size) 24 #[.bool s_4, .slice A_4 n_4 c_4] := by
        have := (Bk.new w3 24 #[.bool s_4, .slice A_4 n_4 c_4])
        rw [hwa5]; simpa using this
      rw [← hwa5]
      clear hwa5
      refine (rparsN hr hb2).mono ?_
      rintro e w6 ⟨v_7, rfl, h_7, hup⟩
      replace hk2 := hk2.up hup
      replace hk7 := hk7.up hup
      replace hupw := hupw.trans hup
      clear hup
      obtain ⟨s_7, A_7, n_7, c_7, rfl⟩ := h_7.agg
      have hk2c0 := hk2.cell (i := 0) rfl
      have hk2c1 := hk2.cell (i := 1) rfl
      have hk2c2 := hk2.cell (i := 2) rfl
      have hk2c3 := hk2.cell (i := 3) rfl
      have hk2l := hk2.lt
      have hk2f0 := hk2.frozen 0
      have hk2f1 := hk2.frozen 1
      have hk2f2 := hk2.frozen 2
      have hk2f3 := hk2.frozen 3
      go_wp2_with fail
      clear hk2c0 hk2c1 hk2c2 hk2c3 hk2l hk2f0 hk2f1 hk2f2 hk2f3
      obtain ⟨ws8, hws8⟩ : ∃ x, x = (st4 w6 w.heap.size (.bool false) (.slice none 0 0) (.bool false) (.slice none 0 0)) := ⟨_, rfl⟩
      replace hk7 := hk7.far4 (g' := w.heap.size) (by omega) (.bool false) (.slice none 0 0) (.bool false) (.slice none 0 0)
      rw [← hws8] at hk7
      replace hupw := hupw.st4 (g := w.heap.size) (by omega) (.bool false) (.slice none 0 0) (.bool false) (.slice none 0 0)
      rw [← hws8] at hupw
      replace hk2 := hk2.four (.bool false) (.slice none 0 0) (.bool false) (.slice none 0 0)
      rw [← hws8] at hk2
      have hszws8 : ws8.heap.size = w6.heap.size := by rw [hws8]; simp [st4]
      unfold st4 at hws8
      rw [← hws8]
      clear hws8
      obtain ⟨wa9, hwa9⟩ : ∃ x, x = (ws8.alloc (.cells #[.bool s_7, .slice A_7 n_7 c_7] 24)) := ⟨_, rfl⟩
      have hup : Up ws8 wa9 := by rw [hwa9]; exact ((Up.refl ws8).alloc _)
      have howa9 : w3.heap.size < w6.heap.size := by have := hk7.lt; omega
      have hzwa9 : w.heap.size ≤ w6.heap.size := by have := hupw.size; omega
      replace hk2 := hk2.up hup
      replace hupw := hupw.trans hup
      clear hup
      have hk9 : Bk wa9 (w6.heap.size) 24 #[.bool s_7, .slice A_7 n_7 c_7] := by
        have := (Bk.new ws8 24 #[.bool s_7, .slice A_7 n_7 c_7])
        rw [hwa9]; simpa [hszws8] using this
      rw [← hwa9]
      clear hwa9
      clear hszws8
      have hk2c0 := hk2.cell (i := 0) rfl
      have hk2c1 := hk2.cell (i := 1) rfl
      have hk2c2 := hk2.cell (i := 2) rfl
      have hk2c3 := hk2.cell (i := 3) rfl
      exact bodyPost_ret (v := .tuple #[.agg #[.bool false, .slice none 0 0, .bool false, .slice none 0 0], .int .i64 2]) (by simp [results, Tryz.results41, go_sem, hk2c0, hk2c1, hk2c2, hk2c3]) rfl ⟨_, rfl, Fz.mk (Iz.zero _) (Iz.zero _), hupw⟩
set_option maxRecDepth 100000 in
set_option maxHeartbeats 4000000 in
theorem rparst_2 (s : ByteArray) (k : Nat) (w : World)  (HK : Hid (ix47 s = k)) (hk : k < s.size) (hs : s.size ≤ 999) (hl : (s.extract 0 k).size ≤ 1000) (hr : ((s.extract (k + 1) s.size)).size ≤ 1000) (hb : okS (s.extract 0 k) = true) (hb2 : okS (s.extract (k + 1) s.size) = false) :
    Calls Tryz.prog 41 #[.string s] w (PFE w 0 0 2) := by
  have hupw : Up w w := Up.refl w
  go_enter Tryz.func41, Tryz.ntmps41
  go_wp2_with fail
  obtain ⟨wa1, hwa1⟩ : ∃ x, x = (w.alloc (.cells #[.bool false, .slice none 0 0, .bool false, .slice none 0 0] 29)) := ⟨_, rfl⟩
  have hup : Up w wa1 := by rw [hwa1]; exact ((Up.refl w).alloc _)
  have hzwa1 : w.heap.size ≤ w.heap.size := hupw.size
  replace hupw := hupw.trans hup
  clear hup
  have hk2 : Bk wa1 (w.heap.size) 29 #[.bool false, .slice none 0 0, .bool false, .slice none 0 0] := by
    have := (Bk.new w 29 #[.bool false, .slice none 0 0, .bool false, .slice none 0 0])
    rw [hwa1]; simpa using this
  rw [← hwa1]
  clear hwa1
  go_loop [4, 5, 6] (fun a b i => ∃ j : Nat, j ≤ k ∧ i = .int .i64 j ∧ a = .string s ∧ b = .string ⟨#[49]⟩) (fun _ _ i => s.size - (intOf i).toNat)
  case atStart => exact ⟨0, Nat.zero_le _, rfl, rfl, rfl⟩
  case round =>
    obtain ⟨j, hj, rfl, rfl, rfl⟩ := hrel
    have hjn : j < s.size := by omega
    by_cases hlt : j < k
    · have hnb := before_slash HK.out hlt
      go_wp2
      go_round
      case rel => exact ⟨j + 1, by omega, by go_num, rfl, rfl⟩
      case measure => simp [intOf]; omega
    · obtain rfl : j = k := by omega
      have hat := at_slash HK.out hjn
      have hw1 : IntKind.i64.wrap ((j : Int) + 1) = ((j + 1 : Nat) : Int) := by rw [IntKind.wrap_i64]; omega
      have hj0 : (0 : Int) ≤ (j : Int) := by omega
      go_wp2_with fail
      go_region
      obtain ⟨wr2, hwr2⟩ : ∃ x, x = wa1.drew := ⟨_, rfl⟩
      have hup : Up wa1 wr2 := by rw [hwr2]; exact (Up.refl wa1).drew
      replace hk2 := hk2.up hup
      replace hupw := hupw.trans hup
      clear hup
      rw [← hwr2]
      clear hwr2
      go_wp2_with fail
      refine (rparsY hl hb).mono ?_
      rintro e w3 ⟨v_4, rfl, h_4, hup⟩
      replace hk2 := hk2.up hup
      replace hupw := hupw.trans hup
      clear hup
      obtain ⟨s_4, A_4, n_4, c_4, rfl⟩ := h_4.agg
      go_wp2_with fail
      obtain ⟨wa5, hwa5⟩ : ∃ x, x = (w3.alloc (.cells #[.bool s_4, .slice A_4 n_4 c_4] 24)) := ⟨_, rfl⟩
      have hup : Up w3 wa5 := by rw [hwa5]; exact ((Up.refl w3).alloc _)
      have howa5 : w.heap.size < w3.heap.size := hk2.lt
      have hzwa5 : w.heap.size ≤ w3.heap.size := hupw.size
      replace hk2 := hk2.up hup
      replace hupw := hupw.trans hup
      clear hup
      have hk7 : Bk wa5 (w3.heap.size) 24 #[.bool s_4, .slice A_4 n_4 c_4] := by
        have := (Bk.new w3 24 #[.bool s_4, .slice A_4 n_4 c_4])
        rw [hwa5]; simpa using this
      rw [← hwa5]
      clear hwa5
      refine (rparsN hr hb2).mono ?_
      rintro e w6 ⟨v_7, rfl, h_7, hup⟩
      replace hk2 := hk2.up hup
      replace hk7 := hk7.up hup
      replace hupw := hupw.trans hup
      clear hup
      obtain ⟨s_7, A_7, n_7, c_7, rfl⟩ := h_7.agg
      have hk2c0 := hk2.cell (i := 0) rfl
      have hk2c1 := hk2.cell (i := 1) rfl
      have hk2c2 := hk2.cell (i := 2) rfl
      have hk2c3 := hk2.cell (i := 3) rfl
      have hk2l := hk2.lt
      have hk2f0 := hk2.frozen 0
      have hk2f1 := hk2.frozen 1
      have hk2f2 := hk2.frozen 2
      have hk2f3 := hk2.frozen 3
      go_wp2_with fail
      clear hk2c0 hk2c1 hk2c2 hk2c3 hk2l hk2f0 hk2f1 hk2f2 hk2f3
      obtain ⟨ws8, hws8⟩ : ∃ x, x = (st4 w6 w.heap.size (.bool false) (.slice none 0 0) (.bool false) (.slice none 0 0)) := ⟨_, rfl⟩
      replace hk7 := hk7.far4 (g' := w.heap.size) (by omega) (.bool false) (.slice none 0 0) (.bool false) (.slice none 0 0)
      rw [← hws8] at hk7
      replace hupw := hupw.st4 (g := w.heap.size) (by omega) (.bool false) (.slice none 0 0) (.bool false) (.slice none 0 0)
      rw [← hws8] at hupw
      replace hk2 := hk2.four (.bool false) (.slice none 0 0) (.bool false) (.slice none 0 0)
      rw [← hws8] at hk2
      have hszws8 : ws8.heap.size = w6.heap.size := by rw [hws8]; simp [st4]
      unfold st4 at hws8
      rw [← hws8]
      clear hws8
      obtain ⟨wa9, hwa9⟩ : ∃ x, x = (ws8.alloc (.cells #[.bool s_7, .slice A_7 n_7 c_7] 24)) := ⟨_, rfl⟩
      have hup : Up ws8 wa9 := by rw [hwa9]; exact ((Up.refl ws8).alloc _)
      have howa9 : w3.heap.size < w6.heap.size := by have := hk7.lt; omega
      have hzwa9 : w.heap.size ≤ w6.heap.size := by have := hupw.size; omega
      replace hk2 := hk2.up hup
      replace hupw := hupw.trans hup
      clear hup
      have hk9 : Bk wa9 (w6.heap.size) 24 #[.bool s_7, .slice A_7 n_7 c_7] := by
        have := (Bk.new ws8 24 #[.bool s_7, .slice A_7 n_7 c_7])
        rw [hwa9]; simpa [hszws8] using this
      rw [← hwa9]
      clear hwa9
      clear hszws8
      have hk2c0 := hk2.cell (i := 0) rfl
      have hk2c1 := hk2.cell (i := 1) rfl
      have hk2c2 := hk2.cell (i := 2) rfl
      have hk2c3 := hk2.cell (i := 3) rfl
      exact bodyPost_ret (v := .tuple #[.agg #[.bool false, .slice none 0 0, .bool false, .slice none 0 0], .int .i64 2]) (by simp [results, Tryz.results41, go_sem, hk2c0, hk2c1, hk2c2, hk2c3]) rfl ⟨_, rfl, Fz.mk (Iz.zero _) (Iz.zero _), hupw⟩
set_option maxRecDepth 100000 in
set_option maxHeartbeats 4000000 in
theorem rparst_3 (s : ByteArray) (k : Nat) (w : World)  (HK : Hid (ix47 s = k)) (hk : k < s.size) (hs : s.size ≤ 999) (hl : (s.extract 0 k).size ≤ 1000) (hr : ((s.extract (k + 1) s.size)).size ≤ 1000) (hb : okS (s.extract 0 k) = true) (hb2 : okS (s.extract (k + 1) s.size) = true) (hq : lowB (valS (s.extract 0 k)) (valS (s.extract (k + 1) s.size)) = false) :
    Calls Tryz.prog 41 #[.string s] w (PFE w 0 0 2) := by
  have hupw : Up w w := Up.refl w
  go_enter Tryz.func41, Tryz.ntmps41
  go_wp2_with fail
  obtain ⟨wa1, hwa1⟩ : ∃ x, x = (w.alloc (.cells #[.bool false, .slice none 0 0, .bool false, .slice none 0 0] 29)) := ⟨_, rfl⟩
  have hup : Up w wa1 := by rw [hwa1]; exact ((Up.refl w).alloc _)
  have hzwa1 : w.heap.size ≤ w.heap.size := hupw.size
  replace hupw := hupw.trans hup
  clear hup
  have hk2 : Bk wa1 (w.heap.size) 29 #[.bool false, .slice none 0 0, .bool false, .slice none 0 0] := by
    have := (Bk.new w 29 #[.bool false, .slice none 0 0, .bool false, .slice none 0 0])
    rw [hwa1]; simpa using this
  rw [← hwa1]
  clear hwa1
  go_loop [4, 5, 6] (fun a b i => ∃ j : Nat, j ≤ k ∧ i = .int .i64 j ∧ a = .string s ∧ b = .string ⟨#[49]⟩) (fun _ _ i => s.size - (intOf i).toNat)
  case atStart => exact ⟨0, Nat.zero_le _, rfl, rfl, rfl⟩
  case round =>
    obtain ⟨j, hj, rfl, rfl, rfl⟩ := hrel
    have hjn : j < s.size := by omega
    by_cases hlt : j < k
    · have hnb := before_slash HK.out hlt
      go_wp2
      go_round
      case rel => exact ⟨j + 1, by omega, by go_num, rfl, rfl⟩
      case measure => simp [intOf]; omega
    · obtain rfl : j = k := by omega
      have hat := at_slash HK.out hjn
      have hw1 : IntKind.i64.wrap ((j : Int) + 1) = ((j + 1 : Nat) : Int) := by rw [IntKind.wrap_i64]; omega
      have hj0 : (0 : Int) ≤ (j : Int) := by omega
      go_wp2_with fail
      go_region
      obtain ⟨wr2, hwr2⟩ : ∃ x, x = wa1.drew := ⟨_, rfl⟩
      have hup : Up wa1 wr2 := by rw [hwr2]; exact (Up.refl wa1).drew
      replace hk2 := hk2.up hup
      replace hupw := hupw.trans hup
      clear hup
      rw [← hwr2]
      clear hwr2
      go_wp2_with fail
      refine (rparsY hl hb).mono ?_
      rintro e w3 ⟨v_4, rfl, h_4, hup⟩
      replace hk2 := hk2.up hup
      replace hupw := hupw.trans hup
      clear hup
      obtain ⟨s_4, A_4, n_4, c_4, rfl⟩ := h_4.agg
      go_wp2_with fail
      obtain ⟨wa5, hwa5⟩ : ∃ x, x = (w3.alloc (.cells #[.bool s_4, .slice A_4 n_4 c_4] 24)) := ⟨_, rfl⟩
      have hup : Up w3 wa5 := by rw [hwa5]; exact ((Up.refl w3).alloc _)
      have howa5 : w.heap.size < w3.heap.size := hk2.lt
      have hzwa5 : w.heap.size ≤ w3.heap.size := hupw.size
      replace hk2 := hk2.up hup
      replace h_4 := h_4.up hup
      replace hupw := hupw.trans hup
      clear hup
      have hk7 : Bk wa5 (w3.heap.size) 24 #[.bool s_4, .slice A_4 n_4 c_4] := by
        have := (Bk.new w3 24 #[.bool s_4, .slice A_4 n_4 c_4])
        rw [hwa5]; simpa using this
      rw [← hwa5]
      clear hwa5
      refine (rparsY hr hb2).mono ?_
      rintro e w6 ⟨v_7, rfl, h_7, hup⟩
      replace hk2 := hk2.up hup
      replace hk7 := hk7.up hup
      replace h_4 := h_4.up hup
      replace hupw := hupw.trans hup
      clear hup
      obtain ⟨s_7, A_7, n_7, c_7, rfl⟩ := h_7.agg
      have hk7c0 := hk7.cell (i := 0) rfl
      have hk7c1 := hk7.cell (i := 1) rfl
      have hk7l := hk7.lt
      have hk7l1 : w3.heap.size < w6.heap.size + 1 := by omega
      go_wp2_with fail
      clear hk7c0 hk7c1 hk7l hk7l1
      obtain ⟨wa8, hwa8⟩ : ∃ x, x = ((w6.alloc (.cells #[.bool s_7, .slice A_7 n_7 c_7] 24)).alloc (.cells #[.bool s_4, .slice A_4 n_4 c_4, .bool s_7, .slice A_7 n_7 c_7] 29)) := ⟨_, rfl⟩
      have hup : Up w6 wa8 := by rw [hwa8]; exact (((Up.refl w6).alloc _).alloc _)
      have howa8 : w3.heap.size < w6.heap.size := hk7.lt
      have hzwa8 : w.heap.size ≤ w6.heap.size := hupw.size
      replace hk2 := hk2.up hup
      replace h_4 := h_4.up hup
      replace h_7 := h_7.up hup
      replace hupw := hupw.trans hup
      clear hup
      have hk9 : Bk wa8 (w6.heap.size) 24 #[.bool s_7, .slice A_7 n_7 c_7] := by
        have := ((Bk.new w6 24 #[.bool s_7, .slice A_7 n_7 c_7]).alloc (.cells #[.bool s_4, .slice A_4 n_4 c_4, .bool s_7, .slice A_7 n_7 c_7] 29))
        rw [hwa8]; simpa using this
      have hk11 : Bk wa8 (w6.heap.size + 1) 29 #[.bool s_4, .slice A_4 n_4 c_4, .bool s_7, .slice A_7 n_7 c_7] := by
        have := (Bk.new (w6.alloc (.cells #[.bool s_7, .slice A_7 n_7 c_7] 24)) 29 #[.bool s_4, .slice A_4 n_4 c_4, .bool s_7, .slice A_7 n_7 c_7])
        rw [hwa8]; simpa using this
      rw [← hwa8]
      clear hwa8
      refine (rfmtMQ (Fz.mk h_4 h_7) hq).mono ?_
      rintro e w9 ⟨rfl, hup⟩
      replace hk2 := hk2.up hup
      replace hupw := hupw.trans hup
      clear hup
      have hk2c0 := hk2.cell (i := 0) rfl
      have hk2c1 := hk2.cell (i := 1) rfl
      have hk2c2 := hk2.cell (i := 2) rfl
      have hk2c3 := hk2.cell (i := 3) rfl
      have hk2l := hk2.lt
      have hk2f0 := hk2.frozen 0
      have hk2f1 := hk2.frozen 1
      have hk2f2 := hk2.frozen 2
      have hk2f3 := hk2.frozen 3
      go_wp2_with fail
      clear hk2c0 hk2c1 hk2c2 hk2c3 hk2l hk2f0 hk2f1 hk2f2 hk2f3
      obtain ⟨ws10, hws10⟩ : ∃ x, x = (st4 w9 w.heap.size (.bool false) (.slice none 0 0) (.bool false) (.slice none 0 0)) := ⟨_, rfl⟩
      replace hupw := hupw.st4 (g := w.heap.size) (by omega) (.bool false) (.slice none 0 0) (.bool false) (.slice none 0 0)
      rw [← hws10] at hupw
      replace hk2 := hk2.four (.bool false) (.slice none 0 0) (.bool false) (.slice none 0 0)
      rw [← hws10] at hk2
      have hszws10 : ws10.heap.size = w9.heap.size := by rw [hws10]; simp [st4]
      unfold st4 at hws10
      rw [← hws10]
      clear hws10
      clear hszws10
      have hk2c0 := hk2.cell (i := 0) rfl
      have hk2c1 := hk2.cell (i := 1) rfl
      have hk2c2 := hk2.cell (i := 2) rfl
      have hk2c3 := hk2.cell (i := 3) rfl
      exact bodyPost_ret (v := .tuple #[.agg #[.bool false, .slice none 0 0, .bool false, .slice none 0 0], .int .i64 2]) (by simp [results, Tryz.results41, go_sem, hk2c0, hk2c1, hk2c2, hk2c3]) rfl ⟨_, rfl, Fz.mk (Iz.zero _) (Iz.zero _), hupw⟩
set_option maxRecDepth 100000 in
set_option maxHeartbeats 4000000 in
theorem rparst_4 (T : ByteArray) (s : ByteArray) (k : Nat) (w : World)  (HK : Hid (ix47 s = k)) (hk : k < s.size) (hs : s.size ≤ 999) (hl : (s.extract 0 k).size ≤ 1000) (hr : ((s.extract (k + 1) s.size)).size ≤ 1000) (hb : okS (s.extract 0 k) = true) (hb2 : okS (s.extract (k + 1) s.size) = true) (hq : lowB (valS (s.extract 0 k)) (valS (s.extract (k + 1) s.size)) = true) (hT : Hid (rtx (valS (s.extract 0 k)) (valS (s.extract (k + 1) s.size)) = T)) (hne : (T.toList == s.toList) = false) :
    Calls Tryz.prog 41 #[.string s] w (PFE w 0 0 2) := by
  have hupw : Up w w := Up.refl w
  go_enter Tryz.func41, Tryz.ntmps41
  go_wp2_with fail
  obtain ⟨wa1, hwa1⟩ : ∃ x, x = (w.alloc (.cells #[.bool false, .slice none 0 0, .bool false, .slice none 0 0] 29)) := ⟨_, rfl⟩
  have hup : Up w wa1 := by rw [hwa1]; exact ((Up.refl w).alloc _)
  have hzwa1 : w.heap.size ≤ w.heap.size := hupw.size
  replace hupw := hupw.trans hup
  clear hup
  have hk2 : Bk wa1 (w.heap.size) 29 #[.bool false, .slice none 0 0, .bool false, .slice none 0 0] := by
    have := (Bk.new w 29 #[.bool false, .slice none 0 0, .bool false, .slice none 0 0])
    rw [hwa1]; simpa using this
  rw [← hwa1]
  clear hwa1
  go_loop [4, 5, 6] (fun a b i => ∃ j : Nat, j ≤ k ∧ i = .int .i64 j ∧ a = .string s ∧ b = .string ⟨#[49]⟩) (fun _ _ i => s.size - (intOf i).toNat)
  case atStart => exact ⟨0, Nat.zero_le _, rfl, rfl, rfl⟩
  case round =>
    obtain ⟨j, hj, rfl, rfl, rfl⟩ := hrel
    have hjn : j < s.size := by omega
    by_cases hlt : j < k
    · have hnb := before_slash HK.out hlt
      go_wp2
      go_round
      case rel => exact ⟨j + 1, by omega, by go_num, rfl, rfl⟩
      case measure => simp [intOf]; omega
    · obtain rfl : j = k := by omega
      have hat := at_slash HK.out hjn
      have hw1 : IntKind.i64.wrap ((j : Int) + 1) = ((j + 1 : Nat) : Int) := by rw [IntKind.wrap_i64]; omega
      have hj0 : (0 : Int) ≤ (j : Int) := by omega
      go_wp2_with fail
      go_region
      obtain ⟨wr2, hwr2⟩ : ∃ x, x = wa1.drew := ⟨_, rfl⟩
      have hup : Up wa1 wr2 := by rw [hwr2]; exact (Up.refl wa1).drew
      replace hk2 := hk2.up hup
      replace hupw := hupw.trans hup
      clear hup
      rw [← hwr2]
      clear hwr2
      go_wp2_with fail
      refine (rparsY hl hb).mono ?_
      rintro e w3 ⟨v_4, rfl, h_4, hup⟩
      replace hk2 := hk2.up hup
      replace hupw := hupw.trans hup
      clear hup
      obtain ⟨s_4, A_4, n_4, c_4, rfl⟩ := h_4.agg
      go_wp2_with fail
      obtain ⟨wa5, hwa5⟩ : ∃ x, x = (w3.alloc (.cells #[.bool s_4, .slice A_4 n_4 c_4] 24)) := ⟨_, rfl⟩
      have hup : Up w3 wa5 := by rw [hwa5]; exact ((Up.refl w3).alloc _)
      have howa5 : w.heap.size < w3.heap.size := hk2.lt
      have hzwa5 : w.heap.size ≤ w3.heap.size := hupw.size
      replace hk2 := hk2.up hup
      replace h_4 := h_4.up hup
      replace hupw := hupw.trans hup
      clear hup
      have hk7 : Bk wa5 (w3.heap.size) 24 #[.bool s_4, .slice A_4 n_4 c_4] := by
        have := (Bk.new w3 24 #[.bool s_4, .slice A_4 n_4 c_4])
        rw [hwa5]; simpa using this
      rw [← hwa5]
      clear hwa5
      refine (rparsY hr hb2).mono ?_
      rintro e w6 ⟨v_7, rfl, h_7, hup⟩
      replace hk2 := hk2.up hup
      replace hk7 := hk7.up hup
      replace h_4 := h_4.up hup
      replace hupw := hupw.trans hup
      clear hup
      obtain ⟨s_7, A_7, n_7, c_7, rfl⟩ := h_7.agg
      have hk7c0 := hk7.cell (i := 0) rfl
      have hk7c1 := hk7.cell (i := 1) rfl
      have hk7l := hk7.lt
      have hk7l1 : w3.heap.size < w6.heap.size + 1 := by omega
      go_wp2_with fail
      clear hk7c0 hk7c1 hk7l hk7l1
      obtain ⟨wa8, hwa8⟩ : ∃ x, x = ((w6.alloc (.cells #[.bool s_7, .slice A_7 n_7 c_7] 24)).alloc (.cells #[.bool s_4, .slice A_4 n_4 c_4, .bool s_7, .slice A_7 n_7 c_7] 29)) := ⟨_, rfl⟩
      have hup : Up w6 wa8 := by rw [hwa8]; exact (((Up.refl w6).alloc _).alloc _)
      have howa8 : w3.heap.size < w6.heap.size := hk7.lt
      have hzwa8 : w.heap.size ≤ w6.heap.size := hupw.size
      replace hk2 := hk2.up hup
      replace h_4 := h_4.up hup
      replace h_7 := h_7.up hup
      replace hupw := hupw.trans hup
      clear hup
      have hk9 : Bk wa8 (w6.heap.size) 24 #[.bool s_7, .slice A_7 n_7 c_7] := by
        have := ((Bk.new w6 24 #[.bool s_7, .slice A_7 n_7 c_7]).alloc (.cells #[.bool s_4, .slice A_4 n_4 c_4, .bool s_7, .slice A_7 n_7 c_7] 29))
        rw [hwa8]; simpa using this
      have hk11 : Bk wa8 (w6.heap.size + 1) 29 #[.bool s_4, .slice A_4 n_4 c_4, .bool s_7, .slice A_7 n_7 c_7] := by
        have := (Bk.new (w6.alloc (.cells #[.bool s_7, .slice A_7 n_7 c_7] 24)) 29 #[.bool s_4, .slice A_4 n_4 c_4, .bool s_7, .slice A_7 n_7 c_7])
        rw [hwa8]; simpa using this
      rw [← hwa8]
      clear hwa8
      refine (rfmtLQ (Fz.mk h_4 h_7) hq hT.out).mono ?_
      rintro e w9 ⟨rfl, hup⟩
      replace hk2 := hk2.up hup
      replace hupw := hupw.trans hup
      clear hup
      have hk2c0 := hk2.cell (i := 0) rfl
      have hk2c1 := hk2.cell (i := 1) rfl
      have hk2c2 := hk2.cell (i := 2) rfl
      have hk2c3 := hk2.cell (i := 3) rfl
      have hk2l := hk2.lt
      have hk2f0 := hk2.frozen 0
      have hk2f1 := hk2.frozen 1
      have hk2f2 := hk2.frozen 2
      have hk2f3 := hk2.frozen 3
      go_wp2_with fail
      clear hk2c0 hk2c1 hk2c2 hk2c3 hk2l hk2f0 hk2f1 hk2f2 hk2f3
      obtain ⟨ws10, hws10⟩ : ∃ x, x = (st4 w9 w.heap.size (.bool false) (.slice none 0 0) (.bool false) (.slice none 0 0)) := ⟨_, rfl⟩
      replace hupw := hupw.st4 (g := w.heap.size) (by omega) (.bool false) (.slice none 0 0) (.bool false) (.slice none 0 0)
      rw [← hws10] at hupw
      replace hk2 := hk2.four (.bool false) (.slice none 0 0) (.bool false) (.slice none 0 0)
      rw [← hws10] at hk2
      have hszws10 : ws10.heap.size = w9.heap.size := by rw [hws10]; simp [st4]
      unfold st4 at hws10
      rw [← hws10]
      clear hws10
      clear hszws10
      have hk2c0 := hk2.cell (i := 0) rfl
      have hk2c1 := hk2.cell (i := 1) rfl
      have hk2c2 := hk2.cell (i := 2) rfl
      have hk2c3 := hk2.cell (i := 3) rfl
      exact bodyPost_ret (v := .tuple #[.agg #[.bool false, .slice none 0 0, .bool false, .slice none 0 0], .int .i64 2]) (by simp [results, Tryz.results41, go_sem, hk2c0, hk2c1, hk2c2, hk2c3]) rfl ⟨_, rfl, Fz.mk (Iz.zero _) (Iz.zero _), hupw⟩
set_option maxRecDepth 100000 in
set_option maxHeartbeats 4000000 in
theorem rparst_5 (s : ByteArray) (k : Nat) (w : World)  (HK : Hid (ix47 s = k)) (hk : k < s.size) (hs : s.size ≤ 999) (hl : (s.extract 0 k).size ≤ 1000) (hr : ((s.extract (k + 1) s.size)).size ≤ 1000) (hb : okS (s.extract 0 k) = true) (hb2 : okS (s.extract (k + 1) s.size) = true) (hq : lowB (valS (s.extract 0 k)) (valS (s.extract (k + 1) s.size)) = true) (hT : Hid (rtx (valS (s.extract 0 k)) (valS (s.extract (k + 1) s.size)) = s)) :
    Calls Tryz.prog 41 #[.string s] w (PFE w (valS (s.extract 0 k)) (valS (s.extract (k + 1) s.size)) 0) := by
  have hupw : Up w w := Up.refl w
  go_enter Tryz.func41, Tryz.ntmps41
  go_wp2_with fail
  obtain ⟨wa1, hwa1⟩ : ∃ x, x = (w.alloc (.cells #[.bool false, .slice none 0 0, .bool false, .slice none 0 0] 29)) := ⟨_, rfl⟩
  have hup : Up w wa1 := by rw [hwa1]; exact ((Up.refl w).alloc _)
  have hzwa1 : w.heap.size ≤ w.heap.size := hupw.size
  replace hupw := hupw.trans hup
  clear hup
  have hk2 : Bk wa1 (w.heap.size) 29 #[.bool false, .slice none 0 0, .bool false, .slice none 0 0] := by
    have := (Bk.new w 29 #[.bool false, .slice none 0 0, .bool false, .slice none 0 0])
    rw [hwa1]; simpa using this
  rw [← hwa1]
  clear hwa1
  go_loop [4, 5, 6] (fun a b i => ∃ j : Nat, j ≤ k ∧ i = .int .i64 j ∧ a = .string s ∧ b = .string ⟨#[49]⟩) (fun _ _ i => s.size - (intOf i).toNat)
  case atStart => exact ⟨0, Nat.zero_le _, rfl, rfl, rfl⟩
  case round =>
    obtain ⟨j, hj, rfl, rfl, rfl⟩ := hrel
    have hjn : j < s.size := by omega
    by_cases hlt : j < k
    · have hnb := before_slash HK.out hlt
      go_wp2
      go_round
      case rel => exact ⟨j + 1, by omega, by go_num, rfl, rfl⟩
      case measure => simp [intOf]; omega
    · obtain rfl : j = k := by omega
      have hat := at_slash HK.out hjn
      have hw1 : IntKind.i64.wrap ((j : Int) + 1) = ((j + 1 : Nat) : Int) := by rw [IntKind.wrap_i64]; omega
      have hj0 : (0 : Int) ≤ (j : Int) := by omega
      go_wp2_with fail
      go_region
      obtain ⟨wr2, hwr2⟩ : ∃ x, x = wa1.drew := ⟨_, rfl⟩
      have hup : Up wa1 wr2 := by rw [hwr2]; exact (Up.refl wa1).drew
      replace hk2 := hk2.up hup
      replace hupw := hupw.trans hup
      clear hup
      rw [← hwr2]
      clear hwr2
      go_wp2_with fail
      refine (rparsY hl hb).mono ?_
      rintro e w3 ⟨v_4, rfl, h_4, hup⟩
      replace hk2 := hk2.up hup
      replace hupw := hupw.trans hup
      clear hup
      obtain ⟨s_4, A_4, n_4, c_4, rfl⟩ := h_4.agg
      go_wp2_with fail
      obtain ⟨wa5, hwa5⟩ : ∃ x, x = (w3.alloc (.cells #[.bool s_4, .slice A_4 n_4 c_4] 24)) := ⟨_, rfl⟩
      have hup : Up w3 wa5 := by rw [hwa5]; exact ((Up.refl w3).alloc _)
      have howa5 : w.heap.size < w3.heap.size := hk2.lt
      have hzwa5 : w.heap.size ≤ w3.heap.size := hupw.size
      replace hk2 := hk2.up hup
      replace h_4 := h_4.up hup
      replace hupw := hupw.trans hup
      clear hup
      have hk7 : Bk wa5 (w3.heap.size) 24 #[.bool s_4, .slice A_4 n_4 c_4] := by
        have := (Bk.new w3 24 #[.bool s_4, .slice A_4 n_4 c_4])
        rw [hwa5]; simpa using this
      rw [← hwa5]
      clear hwa5
      refine (rparsY hr hb2).mono ?_
      rintro e w6 ⟨v_7, rfl, h_7, hup⟩
      replace hk2 := hk2.up hup
      replace hk7 := hk7.up hup
      replace h_4 := h_4.up hup
      replace hupw := hupw.trans hup
      clear hup
      obtain ⟨s_7, A_7, n_7, c_7, rfl⟩ := h_7.agg
      have hk7c0 := hk7.cell (i := 0) rfl
      have hk7c1 := hk7.cell (i := 1) rfl
      have hk7l := hk7.lt
      have hk7l1 : w3.heap.size < w6.heap.size + 1 := by omega
      go_wp2_with fail
      clear hk7c0 hk7c1 hk7l hk7l1
      obtain ⟨wa8, hwa8⟩ : ∃ x, x = ((w6.alloc (.cells #[.bool s_7, .slice A_7 n_7 c_7] 24)).alloc (.cells #[.bool s_4, .slice A_4 n_4 c_4, .bool s_7, .slice A_7 n_7 c_7] 29)) := ⟨_, rfl⟩
      have hup : Up w6 wa8 := by rw [hwa8]; exact (((Up.refl w6).alloc _).alloc _)
      have howa8 : w3.heap.size < w6.heap.size := hk7.lt
      have hzwa8 : w.heap.size ≤ w6.heap.size := hupw.size
      replace hk2 := hk2.up hup
      replace h_4 := h_4.up hup
      replace h_7 := h_7.up hup
      replace hupw := hupw.trans hup
      clear hup
      have hk9 : Bk wa8 (w6.heap.size) 24 #[.bool s_7, .slice A_7 n_7 c_7] := by
        have := ((Bk.new w6 24 #[.bool s_7, .slice A_7 n_7 c_7]).alloc (.cells #[.bool s_4, .slice A_4 n_4 c_4, .bool s_7, .slice A_7 n_7 c_7] 29))
        rw [hwa8]; simpa using this
      have hk11 : Bk wa8 (w6.heap.size + 1) 29 #[.bool s_4, .slice A_4 n_4 c_4, .bool s_7, .slice A_7 n_7 c_7] := by
        have := (Bk.new (w6.alloc (.cells #[.bool s_7, .slice A_7 n_7 c_7] 24)) 29 #[.bool s_4, .slice A_4 n_4 c_4, .bool s_7, .slice A_7 n_7 c_7])
        rw [hwa8]; simpa using this
      rw [← hwa8]
      clear hwa8
      refine (rfmtLQ (Fz.mk h_4 h_7) hq hT.out).mono ?_
      rintro e w9 ⟨rfl, hup⟩
      replace hk2 := hk2.up hup
      replace hk11 := hk11.up hup
      replace h_4 := h_4.up hup
      replace h_7 := h_7.up hup
      replace hupw := hupw.trans hup
      clear hup
      have hk11c0 := hk11.cell (i := 0) rfl
      have hk11c1 := hk11.cell (i := 1) rfl
      have hk11c2 := hk11.cell (i := 2) rfl
      have hk11c3 := hk11.cell (i := 3) rfl
      have hk11l := hk11.lt
      have hk2c0 := hk2.cell (i := 0) rfl
      have hk2c1 := hk2.cell (i := 1) rfl
      have hk2c2 := hk2.cell (i := 2) rfl
      have hk2c3 := hk2.cell (i := 3) rfl
      have hk2l := hk2.lt
      have hk2f0 := hk2.frozen 0
      have hk2f1 := hk2.frozen 1
      have hk2f2 := hk2.frozen 2
      have hk2f3 := hk2.frozen 3
      go_wp2_with fail
      clear hk11c0 hk11c1 hk11c2 hk11c3 hk11l hk2c0 hk2c1 hk2c2 hk2c3 hk2l hk2f0 hk2f1 hk2f2 hk2f3
      obtain ⟨ws10, hws10⟩ : ∃ x, x = (st4 w9 w.heap.size (.bool s_4) (.slice A_4 n_4 c_4) (.bool s_7) (.slice A_7 n_7 c_7)) := ⟨_, rfl⟩
      have h_4' := h_4.st4 hk2 (noU4 _ _ _ _ _ _ _ _) (.bool s_4) (.slice A_4 n_4 c_4) (.bool s_7) (.slice A_7 n_7 c_7)
      have h_7' := h_7.st4 hk2 (noU4 _ _ _ _ _ _ _ _) (.bool s_4) (.slice A_4 n_4 c_4) (.bool s_7) (.slice A_7 n_7 c_7)
      rw [← hws10] at h_4'
      clear h_4
      have h_4 := h_4'
      clear h_4'
      rw [← hws10] at h_7'
      clear h_7
      have h_7 := h_7'
      clear h_7'
      replace hupw := hupw.st4 (g := w.heap.size) (by omega) (.bool s_4) (.slice A_4 n_4 c_4) (.bool s_7) (.slice A_7 n_7 c_7)
      rw [← hws10] at hupw
      replace hk2 := hk2.four (.bool s_4) (.slice A_4 n_4 c_4) (.bool s_7) (.slice A_7 n_7 c_7)
      rw [← hws10] at hk2
      have hszws10 : ws10.heap.size = w9.heap.size := by rw [hws10]; simp [st4]
      unfold st4 at hws10
      rw [← hws10]
      clear hws10
      clear hszws10
      have hk2c0 := hk2.cell (i := 0) rfl
      have hk2c1 := hk2.cell (i := 1) rfl
      have hk2c2 := hk2.cell (i := 2) rfl
      have hk2c3 := hk2.cell (i := 3) rfl
      exact bodyPost_ret (v := .tuple #[.agg #[.bool s_4, .slice A_4 n_4 c_4, .bool s_7, .slice A_7 n_7 c_7], .int .i64 0]) (by simp [results, Tryz.results41, go_sem, hk2c0, hk2c1, hk2c2, hk2c3]) rfl ⟨_, rfl, Fz.mk h_4 h_7, hupw⟩
set_option maxRecDepth 100000 in
set_option maxHeartbeats 4000000 in
theorem rparsf_1 (s : ByteArray) (w : World)  (HK : Hid (ix47 s = -1)) (hs : s.size ≤ 999) (hl : (s).size ≤ 1000) (hb : okS (s) = false) (hb2 : okS ⟨#[49]⟩ = true) :
    Calls Tryz.prog 41 #[.string s] w (PFE w 0 0 2) := by
  have hupw : Up w w := Up.refl w
  go_enter Tryz.func41, Tryz.ntmps41
  go_wp2_with fail
  obtain ⟨wa1, hwa1⟩ : ∃ x, x = (w.alloc (.cells #[.bool false, .slice none 0 0, .bool false, .slice none 0 0] 29)) := ⟨_, rfl⟩
  have hup : Up w wa1 := by rw [hwa1]; exact ((Up.refl w).alloc _)
  have hzwa1 : w.heap.size ≤ w.heap.size := hupw.size
  replace hupw := hupw.trans hup
  clear hup
  have hk2 : Bk wa1 (w.heap.size) 29 #[.bool false, .slice none 0 0, .bool false, .slice none 0 0] := by
    have := (Bk.new w 29 #[.bool false, .slice none 0 0, .bool false, .slice none 0 0])
    rw [hwa1]; simpa using this
  rw [← hwa1]
  clear hwa1
  go_loop [4, 5, 6] (fun a b i => ∃ j : Nat, j ≤ s.size ∧ i = .int .i64 j ∧ a = .string s ∧ b = .string ⟨#[49]⟩) (fun _ _ i => s.size - (intOf i).toNat)
  case atStart => exact ⟨0, Nat.zero_le _, rfl, rfl, rfl⟩
  case round =>
    obtain ⟨j, hj, rfl, rfl, rfl⟩ := hrel
    by_cases hlt : j < s.size
    · have hnb := never_slash HK.out hlt
      go_wp2
      go_round
      case rel => exact ⟨j + 1, by omega, by go_num, rfl, rfl⟩
      case measure => simp [intOf]; omega
    · obtain rfl : j = s.size := by omega
      go_wp2_with fail
      refine (rparsN hl hb).mono ?_
      rintro e w2 ⟨v_3, rfl, h_3, hup⟩
      replace hk2 := hk2.up hup
      replace hupw := hupw.trans hup
      clear hup
      obtain ⟨s_3, A_3, n_3, c_3, rfl⟩ := h_3.agg
      go_wp2_with fail
      obtain ⟨wa4, hwa4⟩ : ∃ x, x = (w2.alloc (.cells #[.bool s_3, .slice A_3 n_3 c_3] 24)) := ⟨_, rfl⟩
      have hup : Up w2 wa4 := by rw [hwa4]; exact ((Up.refl w2).alloc _)
      have howa4 : w.heap.size < w2.heap.size := hk2.lt
      have hzwa4 : w.heap.size ≤ w2.heap.size := hupw.size
      replace hk2 := hk2.up hup
      replace hupw := hupw.trans hup
      clear hup
      have hk7 : Bk wa4 (w2.heap.size) 24 #[.bool s_3, .slice A_3 n_3 c_3] := by
        have := (Bk.new w2 24 #[.bool s_3, .slice A_3 n_3 c_3])
        rw [hwa4]; simpa using this
      rw [← hwa4]
      clear hwa4
      refine (rparsY (by decide) hb2).mono ?_
      rintro e w5 ⟨v_6, rfl, h_6, hup⟩
      replace hk2 := hk2.up hup
      replace hk7 := hk7.up hup
      replace hupw := hupw.trans hup
      clear hup
      obtain ⟨s_6, A_6, n_6, c_6, rfl⟩ := h_6.agg
      have hk2c0 := hk2.cell (i := 0) rfl
      have hk2c1 := hk2.cell (i := 1) rfl
      have hk2c2 := hk2.cell (i := 2) rfl
      have hk2c3 := hk2.cell (i := 3) rfl
      have hk2l := hk2.lt
      have hk2f0 := hk2.frozen 0
      have hk2f1 := hk2.frozen 1
      have hk2f2 := hk2.frozen 2
      have hk2f3 := hk2.frozen 3
      go_wp2_with fail
      clear hk2c0 hk2c1 hk2c2 hk2c3 hk2l hk2f0 hk2f1 hk2f2 hk2f3
      obtain ⟨ws7, hws7⟩ : ∃ x, x = (st4 w5 w.heap.size (.bool false) (.slice none 0 0) (.bool false) (.slice none 0 0)) := ⟨_, rfl⟩
      replace hk7 := hk7.far4 (g' := w.heap.size) (by omega) (.bool false) (.slice none 0 0) (.bool false) (.slice none 0 0)
      rw [← hws7] at hk7
      replace hupw := hupw.st4 (g := w.heap.size) (by omega) (.bool false) (.slice none 0 0) (.bool false) (.slice none 0 0)
      rw [← hws7] at hupw
      replace hk2 := hk2.four (.bool false) (.slice none 0 0) (.bool false) (.slice none 0 0)
      rw [← hws7] at hk2
      have hszws7 : ws7.heap.size = w5.heap.size := by rw [hws7]; simp [st4]
      unfold st4 at hws7
      rw [← hws7]
      clear hws7
      obtain ⟨wa8, hwa8⟩ : ∃ x, x = (ws7.alloc (.cells #[.bool s_6, .slice A_6 n_6 c_6] 24)) := ⟨_, rfl⟩
      have hup : Up ws7 wa8 := by rw [hwa8]; exact ((Up.refl ws7).alloc _)
      have howa8 : w2.heap.size < w5.heap.size := by have := hk7.lt; omega
      have hzwa8 : w.heap.size ≤ w5.heap.size := by have := hupw.size; omega
      replace hk2 := hk2.up hup
      replace hupw := hupw.trans hup
      clear hup
      have hk9 : Bk wa8 (w5.heap.size) 24 #[.bool s_6, .slice A_6 n_6 c_6] := by
        have := (Bk.new ws7 24 #[.bool s_6, .slice A_6 n_6 c_6])
        rw [hwa8]; simpa [hszws7] using this
      rw [← hwa8]
      clear hwa8
      clear hszws7
      have hk2c0 := hk2.cell (i := 0) rfl
      have hk2c1 := hk2.cell (i := 1) rfl
      have hk2c2 := hk2.cell (i := 2) rfl
      have hk2c3 := hk2.cell (i := 3) rfl
      exact bodyPost_ret (v := .tuple #[.agg #[.bool false, .slice none 0 0, .bool false, .slice none 0 0], .int .i64 2]) (by simp [results, Tryz.results41, go_sem, hk2c0, hk2c1, hk2c2, hk2c3]) rfl ⟨_, rfl, Fz.mk (Iz.zero _) (Iz.zero _), hupw⟩
set_option maxRecDepth 100000 in
set_option maxHeartbeats 4000000 in
theorem rparsf_1b (s : ByteArray) (w : World)  (HK : Hid (ix47 s = -1)) (hs : s.size ≤ 999) (hl : (s).size ≤ 1000) (hb : okS (s) = false) (hb2 : okS ⟨#[49]⟩ = false) :
    Calls Tryz.prog 41 #[.string s] w (PFE w 0 0 2) := by
  have hupw : Up w w := Up.refl w
  go_enter Tryz.func41, Tryz.ntmps41
  go_wp2_with fail
  obtain ⟨wa1, hwa1⟩ : ∃ x, x = (w.alloc (.cells #[.bool false, .slice none 0 0, .bool false, .slice none 0 0] 29)) := ⟨_, rfl⟩
  have hup : Up w wa1 := by rw [hwa1]; exact ((Up.refl w).alloc _)
  have hzwa1 : w.heap.size ≤ w.heap.size := hupw.size
  replace hupw := hupw.trans hup
  clear hup
  have hk2 : Bk wa1 (w.heap.size) 29 #[.bool false, .slice none 0 0, .bool false, .slice none 0 0] := by
    have := (Bk.new w 29 #[.bool false, .slice none 0 0, .bool false, .slice none 0 0])
    rw [hwa1]; simpa using this
  rw [← hwa1]
  clear hwa1
  go_loop [4, 5, 6] (fun a b i => ∃ j : Nat, j ≤ s.size ∧ i = .int .i64 j ∧ a = .string s ∧ b = .string ⟨#[49]⟩) (fun _ _ i => s.size - (intOf i).toNat)
  case atStart => exact ⟨0, Nat.zero_le _, rfl, rfl, rfl⟩
  case round =>
    obtain ⟨j, hj, rfl, rfl, rfl⟩ := hrel
    by_cases hlt : j < s.size
    · have hnb := never_slash HK.out hlt
      go_wp2
      go_round
      case rel => exact ⟨j + 1, by omega, by go_num, rfl, rfl⟩
      case measure => simp [intOf]; omega
    · obtain rfl : j = s.size := by omega
      go_wp2_with fail
      refine (rparsN hl hb).mono ?_
      rintro e w2 ⟨v_3, rfl, h_3, hup⟩
      replace hk2 := hk2.up hup
      replace hupw := hupw.trans hup
      clear hup
      obtain ⟨s_3, A_3, n_3, c_3, rfl⟩ := h_3.agg
      go_wp2_with fail
      obtain ⟨wa4, hwa4⟩ : ∃ x, x = (w2.alloc (.cells #[.bool s_3, .slice A_3 n_3 c_3] 24)) := ⟨_, rfl⟩
      have hup : Up w2 wa4 := by rw [hwa4]; exact ((Up.refl w2).alloc _)
      have howa4 : w.heap.size < w2.heap.size := hk2.lt
      have hzwa4 : w.heap.size ≤ w2.heap.size := hupw.size
      replace hk2 := hk2.up hup
      replace hupw := hupw.trans hup
      clear hup
      have hk7 : Bk wa4 (w2.heap.size) 24 #[.bool s_3, .slice A_3 n_3 c_3] := by
        have := (Bk.new w2 24 #[.bool s_3, .slice A_3 n_3 c_3])
        rw [hwa4]; simpa using this
      rw [← hwa4]
      clear hwa4
      refine (rparsN (by decide) hb2).mono ?_
      rintro e w5 ⟨v_6, rfl, h_6, hup⟩
      replace hk2 := hk2.up hup
      replace hk7 := hk7.up hup
      replace hupw := hupw.trans hup
      clear hup
      obtain ⟨s_6, A_6, n_6, c_6, rfl⟩ := h_6.agg
      have hk2c0 := hk2.cell (i := 0) rfl
      have hk2c1 := hk2.cell (i := 1) rfl
      have hk2c2 := hk2.cell (i := 2) rfl
      have hk2c3 := hk2.cell (i := 3) rfl
      have hk2l := hk2.lt
      have hk2f0 := hk2.frozen 0
      have hk2f1 := hk2.frozen 1
      have hk2f2 := hk2.frozen 2
      have hk2f3 := hk2.frozen 3
      go_wp2_with fail
      clear hk2c0 hk2c1 hk2c2 hk2c3 hk2l hk2f0 hk2f1 hk2f2 hk2f3
      obtain ⟨ws7, hws7⟩ : ∃ x, x = (st4 w5 w.heap.size (.bool false) (.slice none 0 0) (.bool false) (.slice none 0 0)) := ⟨_, rfl⟩
      replace hk7 := hk7.far4 (g' := w.heap.size) (by omega) (.bool false) (.slice none 0 0) (.bool false) (.slice none 0 0)
      rw [← hws7] at hk7
      replace hupw := hupw.st4 (g := w.heap.size) (by omega) (.bool false) (.slice none 0 0) (.bool false) (.slice none 0 0)
      rw [← hws7] at hupw
      replace hk2 := hk2.four (.bool false) (.slice none 0 0) (.bool false) (.slice none 0 0)
      rw [← hws7] at hk2
      have hszws7 : ws7.heap.size = w5.heap.size := by rw [hws7]; simp [st4]
      unfold st4 at hws7
      rw [← hws7]
      clear hws7
      obtain ⟨wa8, hwa8⟩ : ∃ x, x = (ws7.alloc (.cells #[.bool s_6, .slice A_6 n_6 c_6] 24)) := ⟨_, rfl⟩
      have hup : Up ws7 wa8 := by rw [hwa8]; exact ((Up.refl ws7).alloc _)
      have howa8 : w2.heap.size < w5.heap.size := by have := hk7.lt; omega
      have hzwa8 : w.heap.size ≤ w5.heap.size := by have := hupw.size; omega
      replace hk2 := hk2.up hup
      replace hupw := hupw.trans hup
      clear hup
      have hk9 : Bk wa8 (w5.heap.size) 24 #[.bool s_6, .slice A_6 n_6 c_6] := by
        have := (Bk.new ws7 24 #[.bool s_6, .slice A_6 n_6 c_6])
        rw [hwa8]; simpa [hszws7] using this
      rw [← hwa8]
      clear hwa8
      clear hszws7
      have hk2c0 := hk2.cell (i := 0) rfl
      have hk2c1 := hk2.cell (i := 1) rfl
      have hk2c2 := hk2.cell (i := 2) rfl
      have hk2c3 := hk2.cell (i := 3) rfl
      exact bodyPost_ret (v := .tuple #[.agg #[.bool false, .slice none 0 0, .bool false, .slice none 0 0], .int .i64 2]) (by simp [results, Tryz.results41, go_sem, hk2c0, hk2c1, hk2c2, hk2c3]) rfl ⟨_, rfl, Fz.mk (Iz.zero _) (Iz.zero _), hupw⟩
set_option maxRecDepth 100000 in
set_option maxHeartbeats 4000000 in
theorem rparsf_2 (s : ByteArray) (w : World)  (HK : Hid (ix47 s = -1)) (hs : s.size ≤ 999) (hl : (s).size ≤ 1000) (hb : okS (s) = true) (hb2 : okS ⟨#[49]⟩ = false) :
    Calls Tryz.prog 41 #[.string s] w (PFE w 0 0 2) := by
  have hupw : Up w w := Up.refl w
  go_enter Tryz.func41, Tryz.ntmps41
  go_wp2_with fail
  obtain ⟨wa1, hwa1⟩ : ∃ x, x = (w.alloc (.cells #[.bool false, .slice none 0 0, .bool false, .slice none 0 0] 29)) := ⟨_, rfl⟩
  have hup : Up w wa1 := by rw [hwa1]; exact ((Up.refl w).alloc _)
  have hzwa1 : w.heap.size ≤ w.heap.size := hupw.size
  replace hupw := hupw.trans hup
  clear hup
  have hk2 : Bk wa1 (w.heap.size) 29 #[.bool false, .slice none 0 0, .bool false, .slice none 0 0] := by
    have := (Bk.new w 29 #[.bool false, .slice none 0 0, .bool false, .slice none 0 0])
    rw [hwa1]; simpa using this
  rw [← hwa1]
  clear hwa1
  go_loop [4, 5, 6] (fun a b i => ∃ j : Nat, j ≤ s.size ∧ i = .int .i64 j ∧ a = .string s ∧ b = .string ⟨#[49]⟩) (fun _ _ i => s.size - (intOf i).toNat)
  case atStart => exact ⟨0, Nat.zero_le _, rfl, rfl, rfl⟩
  case round =>
    obtain ⟨j, hj, rfl, rfl, rfl⟩ := hrel
    by_cases hlt : j < s.size
    · have hnb := never_slash HK.out hlt
      go_wp2
      go_round
      case rel => exact ⟨j + 1, by omega, by go_num, rfl, rfl⟩
      case measure => simp [intOf]; omega
    · obtain rfl : j = s.size := by omega
      go_wp2_with fail
      refine (rparsY hl hb).mono ?_
      rintro e w2 ⟨v_3, rfl, h_3, hup⟩
      replace hk2 := hk2.up hup
      replace hupw := hupw.trans hup
      clear hup
      obtain ⟨s_3, A_3, n_3, c_3, rfl⟩ := h_3.agg
      go_wp2_with fail
      obtain ⟨wa4, hwa4⟩ : ∃ x, x = (w2.alloc (.cells #[.bool s_3, .slice A_3 n_3 c_3] 24)) := ⟨_, rfl⟩
      have hup : Up w2 wa4 := by rw [hwa4]; exact ((Up.refl w2).alloc _)
      have howa4 : w.heap.size < w2.heap.size := hk2.lt
      have hzwa4 : w.heap.size ≤ w2.heap.size := hupw.size
      replace hk2 := hk2.up hup
      replace hupw := hupw.trans hup
      clear hup
      have hk7 : Bk wa4 (w2.heap.size) 24 #[.bool s_3, .slice A_3 n_3 c_3] := by
        have := (Bk.new w2 24 #[.bool s_3, .slice A_3 n_3 c_3])
        rw [hwa4]; simpa using this
      rw [← hwa4]
      clear hwa4
      refine (rparsN (by decide) hb2).mono ?_
      rintro e w5 ⟨v_6, rfl, h_6, hup⟩
      replace hk2 := hk2.up hup
      replace hk7 := hk7.up hup
      replace hupw := hupw.trans hup
      clear hup
      obtain ⟨s_6, A_6, n_6, c_6, rfl⟩ := h_6.agg
      have hk2c0 := hk2.cell (i := 0) rfl
      have hk2c1 := hk2.cell (i := 1) rfl
      have hk2c2 := hk2.cell (i := 2) rfl
      have hk2c3 := hk2.cell (i := 3) rfl
      have hk2l := hk2.lt
      have hk2f0 := hk2.frozen 0
      have hk2f1 := hk2.frozen 1
      have hk2f2 := hk2.frozen 2
      have hk2f3 := hk2.frozen 3
      go_wp2_with fail
      clear hk2c0 hk2c1 hk2c2 hk2c3 hk2l hk2f0 hk2f1 hk2f2 hk2f3
      obtain ⟨ws7, hws7⟩ : ∃ x, x = (st4 w5 w.heap.size (.bool false) (.slice none 0 0) (.bool false) (.slice none 0 0)) := ⟨_, rfl⟩
      replace hk7 := hk7.far4 (g' := w.heap.size) (by omega) (.bool false) (.slice none 0 0) (.bool false) (.slice none 0 0)
      rw [← hws7] at hk7
      replace hupw := hupw.st4 (g := w.heap.size) (by omega) (.bool false) (.slice none 0 0) (.bool false) (.slice none 0 0)
      rw [← hws7] at hupw
      replace hk2 := hk2.four (.bool false) (.slice none 0 0) (.bool false) (.slice none 0 0)
      rw [← hws7] at hk2
      have hszws7 : ws7.heap.size = w5.heap.size := by rw [hws7]; simp [st4]
      unfold st4 at hws7
      rw [← hws7]
      clear hws7
      obtain ⟨wa8, hwa8⟩ : ∃ x, x = (ws7.alloc (.cells #[.bool s_6, .slice A_6 n_6 c_6] 24)) := ⟨_, rfl⟩
      have hup : Up ws7 wa8 := by rw [hwa8]; exact ((Up.refl ws7).alloc _)
      have howa8 : w2.heap.size < w5.heap.size := by have := hk7.lt; omega
      have hzwa8 : w.heap.size ≤ w5.heap.size := by have := hupw.size; omega
      replace hk2 := hk2.up hup
      replace hupw := hupw.trans hup
      clear hup
      have hk9 : Bk wa8 (w5.heap.size) 24 #[.bool s_6, .slice A_6 n_6 c_6] := by
        have := (Bk.new ws7 24 #[.bool s_6, .slice A_6 n_6 c_6])
        rw [hwa8]; simpa [hszws7] using this
      rw [← hwa8]
      clear hwa8
      clear hszws7
      have hk2c0 := hk2.cell (i := 0) rfl
      have hk2c1 := hk2.cell (i := 1) rfl
      have hk2c2 := hk2.cell (i := 2) rfl
      have hk2c3 := hk2.cell (i := 3) rfl
      exact bodyPost_ret (v := .tuple #[.agg #[.bool false, .slice none 0 0, .bool false, .slice none 0 0], .int .i64 2]) (by simp [results, Tryz.results41, go_sem, hk2c0, hk2c1, hk2c2, hk2c3]) rfl ⟨_, rfl, Fz.mk (Iz.zero _) (Iz.zero _), hupw⟩
set_option maxRecDepth 100000 in
set_option maxHeartbeats 4000000 in
theorem rparsf_3 (s : ByteArray) (w : World)  (HK : Hid (ix47 s = -1)) (hs : s.size ≤ 999) (hl : (s).size ≤ 1000) (hb : okS (s) = true) (hb2 : okS ⟨#[49]⟩ = true) (hq : lowB (valS (s)) (valS ⟨#[49]⟩) = false) :
    Calls Tryz.prog 41 #[.string s] w (PFE w 0 0 2) := by
  have hupw : Up w w := Up.refl w
  go_enter Tryz.func41, Tryz.ntmps41
  go_wp2_with fail
  obtain ⟨wa1, hwa1⟩ : ∃ x, x = (w.alloc (.cells #[.bool false, .slice none 0 0, .bool false, .slice none 0 0] 29)) := ⟨_, rfl⟩
  have hup : Up w wa1 := by rw [hwa1]; exact ((Up.refl w).alloc _)
  have hzwa1 : w.heap.size ≤ w.heap.size := hupw.size
  replace hupw := hupw.trans hup
  clear hup
  have hk2 : Bk wa1 (w.heap.size) 29 #[.bool false, .slice none 0 0, .bool false, .slice none 0 0] := by
    have := (Bk.new w 29 #[.bool false, .slice none 0 0, .bool false, .slice none 0 0])
    rw [hwa1]; simpa using this
  rw [← hwa1]
  clear hwa1
  go_loop [4, 5, 6] (fun a b i => ∃ j : Nat, j ≤ s.size ∧ i = .int .i64 j ∧ a = .string s ∧ b = .string ⟨#[49]⟩) (fun _ _ i => s.size - (intOf i).toNat)
  case atStart => exact ⟨0, Nat.zero_le _, rfl, rfl, rfl⟩
  case round =>
    obtain ⟨j, hj, rfl, rfl, rfl⟩ := hrel
    by_cases hlt : j < s.size
    · have hnb := never_slash HK.out hlt
      go_wp2
      go_round
      case rel => exact ⟨j + 1, by omega, by go_num, rfl, rfl⟩
      case measure => simp [intOf]; omega
    · obtain rfl : j = s.size := by omega
      go_wp2_with fail
      refine (rparsY hl hb).mono ?_
      rintro e w2 ⟨v_3, rfl, h_3, hup⟩
      replace hk2 := hk2.up hup
      replace hupw := hupw.trans hup
      clear hup
      obtain ⟨s_3, A_3, n_3, c_3, rfl⟩ := h_3.agg
      go_wp2_with fail
      obtain ⟨wa4, hwa4⟩ : ∃ x, x = (w2.alloc (.cells #[.bool s_3, .slice A_3 n_3 c_3] 24)) := ⟨_, rfl⟩
      have hup : Up w2 wa4 := by rw [hwa4]; exact ((Up.refl w2).alloc _)
      have howa4 : w.heap.size < w2.heap.size := hk2.lt
      have hzwa4 : w.heap.size ≤ w2.heap.size := hupw.size
      replace hk2 := hk2.up hup
      replace h_3 := h_3.up hup
      replace hupw := hupw.trans hup
      clear hup
      have hk7 : Bk wa4 (w2.heap.size) 24 #[.bool s_3, .slice A_3 n_3 c_3] := by
        have := (Bk.new w2 24 #[.bool s_3, .slice A_3 n_3 c_3])
        rw [hwa4]; simpa using this
      rw [← hwa4]
      clear hwa4
      refine (rparsY (by decide) hb2).mono ?_
      rintro e w5 ⟨v_6, rfl, h_6, hup⟩
      replace hk2 := hk2.up hup
      replace hk7 := hk7.up hup
      replace h_3 := h_3.up hup
      replace hupw := hupw.trans hup
      clear hup
      obtain ⟨s_6, A_6, n_6, c_6, rfl⟩ := h_6.agg
      have hk7c0 := hk7.cell (i := 0) rfl
      have hk7c1 := hk7.cell (i := 1) rfl
      have hk7l := hk7.lt
      have hk7l1 : w2.heap.size < w5.heap.size + 1 := by omega
      go_wp2_with fail
      clear hk7c0 hk7c1 hk7l hk7l1
      obtain ⟨wa7, hwa7⟩ : ∃ x, x = ((w5.alloc (.cells #[.bool s_6, .slice A_6 n_6 c_6] 24)).alloc (.cells #[.bool s_3, .slice A_3 n_3 c_3, .bool s_6, .slice A_6 n_6 c_6] 29)) := ⟨_, rfl⟩
      have hup : Up w5 wa7 := by rw [hwa7]; exact (((Up.refl w5).alloc _).alloc _)
      have howa7 : w2.heap.size < w5.heap.size := hk7.lt
      have hzwa7 : w.heap.size ≤ w5.heap.size := hupw.size
      replace hk2 := hk2.up hup
      replace h_3 := h_3.up hup
      replace h_6 := h_6.up hup
      replace hupw := hupw.trans hup
      clear hup
      have hk9 : Bk wa7 (w5.heap.size) 24 #[.bool s_6, .slice A_6 n_6 c_6] := by
        have := ((Bk.new w5 24 #[.bool s_6, .slice A_6 n_6 c_6]).alloc (.cells #[.bool s_3, .slice A_3 n_3 c_3, .bool s_6, .slice A_6 n_6 c_6] 29))
        rw [hwa7]; simpa using this
      have hk11 : Bk wa7 (w5.heap.size + 1) 29 #[.bool s_3, .slice A_3 n_3 c_3, .bool s_6, .slice A_6 n_6 c_6] := by
        have := (Bk.new (w5.alloc (.cells #[.bool s_6, .slice A_6 n_6 c_6] 24)) 29 #[.bool s_3, .slice A_3 n_3 c_3, .bool s_6, .slice A_6 n_6 c_6])
        rw [hwa7]; simpa using this
      rw [← hwa7]
      clear hwa7
      refine (rfmtMQ (Fz.mk h_3 h_6) hq).mono ?_
      rintro e w8 ⟨rfl, hup⟩
      replace hk2 := hk2.up hup
      replace hupw := hupw.trans hup
      clear hup
      have hk2c0 := hk2.cell (i := 0) rfl
      have hk2c1 := hk2.cell (i := 1) rfl
      have hk2c2 := hk2.cell (i := 2) rfl
      have hk2c3 := hk2.cell (i := 3) rfl
      have hk2l := hk2.lt
      have hk2f0 := hk2.frozen 0
      have hk2f1 := hk2.frozen 1
      have hk2f2 := hk2.frozen 2
      have hk2f3 := hk2.frozen 3
      go_wp2_with fail
      clear hk2c0 hk2c1 hk2c2 hk2c3 hk2l hk2f0 hk2f1 hk2f2 hk2f3
      obtain ⟨ws9, hws9⟩ : ∃ x, x = (st4 w8 w.heap.size (.bool false) (.slice none 0 0) (.bool false) (.slice none 0 0)) := ⟨_, rfl⟩
      replace hupw := hupw.st4 (g := w.heap.size) (by omega) (.bool false) (.slice none 0 0) (.bool false) (.slice none 0 0)
      rw [← hws9] at hupw
      replace hk2 := hk2.four (.bool false) (.slice none 0 0) (.bool false) (.slice none 0 0)
      rw [← hws9] at hk2
      have hszws9 : ws9.heap.size = w8.heap.size := by rw [hws9]; simp [st4]
      unfold st4 at hws9
      rw [← hws9]
      clear hws9
      clear hszws9
      have hk2c0 := hk2.cell (i := 0) rfl
      have hk2c1 := hk2.cell (i := 1) rfl
      have hk2c2 := hk2.cell (i := 2) rfl
      have hk2c3 := hk2.cell (i := 3) rfl
      exact bodyPost_ret (v := .tuple #[.agg #[.bool false, .slice none 0 0, .bool false, .slice none 0 0], .int .i64 2]) (by simp [results, Tryz.results41, go_sem, hk2c0, hk2c1, hk2c2, hk2c3]) rfl ⟨_, rfl, Fz.mk (Iz.zero _) (Iz.zero _), hupw⟩
set_option maxRecDepth 100000 in
set_option maxHeartbeats 4000000 in
theorem rparsf_4 (T : ByteArray) (s : ByteArray) (w : World)  (HK : Hid (ix47 s = -1)) (hs : s.size ≤ 999) (hl : (s).size ≤ 1000) (hb : okS (s) = true) (hb2 : okS ⟨#[49]⟩ = true) (hq : lowB (valS (s)) (valS ⟨#[49]⟩) = true) (hT : Hid (rtx (valS (s)) (valS ⟨#[49]⟩) = T)) (hne : (T.toList == s.toList) = false) :
    Calls Tryz.prog 41 #[.string s] w (PFE w 0 0 2) := by
  have hupw : Up w w := Up.refl w
  go_enter Tryz.func41, Tryz.ntmps41
  go_wp2_with fail
  obtain ⟨wa1, hwa1⟩ : ∃ x, x = (w.alloc (.cells #[.bool false, .slice none 0 0, .bool false, .slice none 0 0] 29)) := ⟨_, rfl⟩
  have hup : Up w wa1 := by rw [hwa1]; exact ((Up.refl w).alloc _)
  have hzwa1 : w.heap.size ≤ w.heap.size := hupw.size
  replace hupw := hupw.trans hup
  clear hup
  have hk2 : Bk wa1 (w.heap.size) 29 #[.bool false, .slice none 0 0, .bool false, .slice none 0 0] := by
    have := (Bk.new w 29 #[.bool false, .slice none 0 0, .bool false, .slice none 0 0])
    rw [hwa1]; simpa using this
  rw [← hwa1]
  clear hwa1
  go_loop [4, 5, 6] (fun a b i => ∃ j : Nat, j ≤ s.size ∧ i = .int .i64 j ∧ a = .string s ∧ b = .string ⟨#[49]⟩) (fun _ _ i => s.size - (intOf i).toNat)
  case atStart => exact ⟨0, Nat.zero_le _, rfl, rfl, rfl⟩
  case round =>
    obtain ⟨j, hj, rfl, rfl, rfl⟩ := hrel
    by_cases hlt : j < s.size
    · have hnb := never_slash HK.out hlt
      go_wp2
      go_round
      case rel => exact ⟨j + 1, by omega, by go_num, rfl, rfl⟩
      case measure => simp [intOf]; omega
    · obtain rfl : j = s.size := by omega
      go_wp2_with fail
      refine (rparsY hl hb).mono ?_
      rintro e w2 ⟨v_3, rfl, h_3, hup⟩
      replace hk2 := hk2.up hup
      replace hupw := hupw.trans hup
      clear hup
      obtain ⟨s_3, A_3, n_3, c_3, rfl⟩ := h_3.agg
      go_wp2_with fail
      obtain ⟨wa4, hwa4⟩ : ∃ x, x = (w2.alloc (.cells #[.bool s_3, .slice A_3 n_3 c_3] 24)) := ⟨_, rfl⟩
      have hup : Up w2 wa4 := by rw [hwa4]; exact ((Up.refl w2).alloc _)
      have howa4 : w.heap.size < w2.heap.size := hk2.lt
      have hzwa4 : w.heap.size ≤ w2.heap.size := hupw.size
      replace hk2 := hk2.up hup
      replace h_3 := h_3.up hup
      replace hupw := hupw.trans hup
      clear hup
      have hk7 : Bk wa4 (w2.heap.size) 24 #[.bool s_3, .slice A_3 n_3 c_3] := by
        have := (Bk.new w2 24 #[.bool s_3, .slice A_3 n_3 c_3])
        rw [hwa4]; simpa using this
      rw [← hwa4]
      clear hwa4
      refine (rparsY (by decide) hb2).mono ?_
      rintro e w5 ⟨v_6, rfl, h_6, hup⟩
      replace hk2 := hk2.up hup
      replace hk7 := hk7.up hup
      replace h_3 := h_3.up hup
      replace hupw := hupw.trans hup
      clear hup
      obtain ⟨s_6, A_6, n_6, c_6, rfl⟩ := h_6.agg
      have hk7c0 := hk7.cell (i := 0) rfl
      have hk7c1 := hk7.cell (i := 1) rfl
      have hk7l := hk7.lt
      have hk7l1 : w2.heap.size < w5.heap.size + 1 := by omega
      go_wp2_with fail
      clear hk7c0 hk7c1 hk7l hk7l1
      obtain ⟨wa7, hwa7⟩ : ∃ x, x = ((w5.alloc (.cells #[.bool s_6, .slice A_6 n_6 c_6] 24)).alloc (.cells #[.bool s_3, .slice A_3 n_3 c_3, .bool s_6, .slice A_6 n_6 c_6] 29)) := ⟨_, rfl⟩
      have hup : Up w5 wa7 := by rw [hwa7]; exact (((Up.refl w5).alloc _).alloc _)
      have howa7 : w2.heap.size < w5.heap.size := hk7.lt
      have hzwa7 : w.heap.size ≤ w5.heap.size := hupw.size
      replace hk2 := hk2.up hup
      replace h_3 := h_3.up hup
      replace h_6 := h_6.up hup
      replace hupw := hupw.trans hup
      clear hup
      have hk9 : Bk wa7 (w5.heap.size) 24 #[.bool s_6, .slice A_6 n_6 c_6] := by
        have := ((Bk.new w5 24 #[.bool s_6, .slice A_6 n_6 c_6]).alloc (.cells #[.bool s_3, .slice A_3 n_3 c_3, .bool s_6, .slice A_6 n_6 c_6] 29))
        rw [hwa7]; simpa using this
      have hk11 : Bk wa7 (w5.heap.size + 1) 29 #[.bool s_3, .slice A_3 n_3 c_3, .bool s_6, .slice A_6 n_6 c_6] := by
        have := (Bk.new (w5.alloc (.cells #[.bool s_6, .slice A_6 n_6 c_6] 24)) 29 #[.bool s_3, .slice A_3 n_3 c_3, .bool s_6, .slice A_6 n_6 c_6])
        rw [hwa7]; simpa using this
      rw [← hwa7]
      clear hwa7
      refine (rfmtLQ (Fz.mk h_3 h_6) hq hT.out).mono ?_
      rintro e w8 ⟨rfl, hup⟩
      replace hk2 := hk2.up hup
      replace hupw := hupw.trans hup
      clear hup
      have hk2c0 := hk2.cell (i := 0) rfl
      have hk2c1 := hk2.cell (i := 1) rfl
      have hk2c2 := hk2.cell (i := 2) rfl
      have hk2c3 := hk2.cell (i := 3) rfl
      have hk2l := hk2.lt
      have hk2f0 := hk2.frozen 0
      have hk2f1 := hk2.frozen 1
      have hk2f2 := hk2.frozen 2
      have hk2f3 := hk2.frozen 3
      go_wp2_with fail
      clear hk2c0 hk2c1 hk2c2 hk2c3 hk2l hk2f0 hk2f1 hk2f2 hk2f3
      obtain ⟨ws9, hws9⟩ : ∃ x, x = (st4 w8 w.heap.size (.bool false) (.slice none 0 0) (.bool false) (.slice none 0 0)) := ⟨_, rfl⟩
      replace hupw := hupw.st4 (g := w.heap.size) (by omega) (.bool false) (.slice none 0 0) (.bool false) (.slice none 0 0)
      rw [← hws9] at hupw
      replace hk2 := hk2.four (.bool false) (.slice none 0 0) (.bool false) (.slice none 0 0)
      rw [← hws9] at hk2
      have hszws9 : ws9.heap.size = w8.heap.size := by rw [hws9]; simp [st4]
      unfold st4 at hws9
      rw [← hws9]
      clear hws9
      clear hszws9
      have hk2c0 := hk2.cell (i := 0) rfl
      have hk2c1 := hk2.cell (i := 1) rfl
      have hk2c2 := hk2.cell (i := 2) rfl
      have hk2c3 := hk2.cell (i := 3) rfl
      exact bodyPost_ret (v := .tuple #[.agg #[.bool false, .slice none 0 0, .bool false, .slice none 0 0], .int .i64 2]) (by simp [results, Tryz.results41, go_sem, hk2c0, hk2c1, hk2c2, hk2c3]) rfl ⟨_, rfl, Fz.mk (Iz.zero _) (Iz.zero _), hupw⟩
set_option maxRecDepth 100000 in
set_option maxHeartbeats 4000000 in
theorem rparsf_5 (s : ByteArray) (w : World)  (HK : Hid (ix47 s = -1)) (hs : s.size ≤ 999) (hl : (s).size ≤ 1000) (hb : okS (s) = true) (hb2 : okS ⟨#[49]⟩ = true) (hq : lowB (valS (s)) (valS ⟨#[49]⟩) = true) (hT : Hid (rtx (valS (s)) (valS ⟨#[49]⟩) = s)) :
    Calls Tryz.prog 41 #[.string s] w (PFE w (valS (s)) (valS ⟨#[49]⟩) 0) := by
  have hupw : Up w w := Up.refl w
  go_enter Tryz.func41, Tryz.ntmps41
  go_wp2_with fail
  obtain ⟨wa1, hwa1⟩ : ∃ x, x = (w.alloc (.cells #[.bool false, .slice none 0 0, .bool false, .slice none 0 0] 29)) := ⟨_, rfl⟩
  have hup : Up w wa1 := by rw [hwa1]; exact ((Up.refl w).alloc _)
  have hzwa1 : w.heap.size ≤ w.heap.size := hupw.size
  replace hupw := hupw.trans hup
  clear hup
  have hk2 : Bk wa1 (w.heap.size) 29 #[.bool false, .slice none 0 0, .bool false, .slice none 0 0] := by
    have := (Bk.new w 29 #[.bool false, .slice none 0 0, .bool false, .slice none 0 0])
    rw [hwa1]; simpa using this
  rw [← hwa1]
  clear hwa1
  go_loop [4, 5, 6] (fun a b i => ∃ j : Nat, j ≤ s.size ∧ i = .int .i64 j ∧ a = .string s ∧ b = .string ⟨#[49]⟩) (fun _ _ i => s.size - (intOf i).toNat)
  case atStart => exact ⟨0, Nat.zero_le _, rfl, rfl, rfl⟩
  case round =>
    obtain ⟨j, hj, rfl, rfl, rfl⟩ := hrel
    by_cases hlt : j < s.size
    · have hnb := never_slash HK.out hlt
      go_wp2
      go_round
      case rel => exact ⟨j + 1, by omega, by go_num, rfl, rfl⟩
      case measure => simp [intOf]; omega
    · obtain rfl : j = s.size := by omega
      go_wp2_with fail
      refine (rparsY hl hb).mono ?_
      rintro e w2 ⟨v_3, rfl, h_3, hup⟩
      replace hk2 := hk2.up hup
      replace hupw := hupw.trans hup
      clear hup
      obtain ⟨s_3, A_3, n_3, c_3, rfl⟩ := h_3.agg
      go_wp2_with fail
      obtain ⟨wa4, hwa4⟩ : ∃ x, x = (w2.alloc (.cells #[.bool s_3, .slice A_3 n_3 c_3] 24)) := ⟨_, rfl⟩
      have hup : Up w2 wa4 := by rw [hwa4]; exact ((Up.refl w2).alloc _)
      have howa4 : w.heap.size < w2.heap.size := hk2.lt
      have hzwa4 : w.heap.size ≤ w2.heap.size := hupw.size
      replace hk2 := hk2.up hup
      replace h_3 := h_3.up hup
      replace hupw := hupw.trans hup
      clear hup
      have hk7 : Bk wa4 (w2.heap.size) 24 #[.bool s_3, .slice A_3 n_3 c_3] := by
        have := (Bk.new w2 24 #[.bool s_3, .slice A_3 n_3 c_3])
        rw [hwa4]; simpa using this
      rw [← hwa4]
      clear hwa4
      refine (rparsY (by decide) hb2).mono ?_
      rintro e w5 ⟨v_6, rfl, h_6, hup⟩
      replace hk2 := hk2.up hup
      replace hk7 := hk7.up hup
      replace h_3 := h_3.up hup
      replace hupw := hupw.trans hup
      clear hup
      obtain ⟨s_6, A_6, n_6, c_6, rfl⟩ := h_6.agg
      have hk7c0 := hk7.cell (i := 0) rfl
      have hk7c1 := hk7.cell (i := 1) rfl
      have hk7l := hk7.lt
      have hk7l1 : w2.heap.size < w5.heap.size + 1 := by omega
      go_wp2_with fail
      clear hk7c0 hk7c1 hk7l hk7l1
      obtain ⟨wa7, hwa7⟩ : ∃ x, x = ((w5.alloc (.cells #[.bool s_6, .slice A_6 n_6 c_6] 24)).alloc (.cells #[.bool s_3, .slice A_3 n_3 c_3, .bool s_6, .slice A_6 n_6 c_6] 29)) := ⟨_, rfl⟩
      have hup : Up w5 wa7 := by rw [hwa7]; exact (((Up.refl w5).alloc _).alloc _)
      have howa7 : w2.heap.size < w5.heap.size := hk7.lt
      have hzwa7 : w.heap.size ≤ w5.heap.size := hupw.size
      replace hk2 := hk2.up hup
      replace h_3 := h_3.up hup
      replace h_6 := h_6.up hup
      replace hupw := hupw.trans hup
      clear hup
      have hk9 : Bk wa7 (w5.heap.size) 24 #[.bool s_6, .slice A_6 n_6 c_6] := by
        have := ((Bk.new w5 24 #[.bool s_6, .slice A_6 n_6 c_6]).alloc (.cells #[.bool s_3, .slice A_3 n_3 c_3, .bool s_6, .slice A_6 n_6 c_6] 29))
        rw [hwa7]; simpa using this
      have hk11 : Bk wa7 (w5.heap.size + 1) 29 #[.bool s_3, .slice A_3 n_3 c_3, .bool s_6, .slice A_6 n_6 c_6] := by
        have := (Bk.new (w5.alloc (.cells #[.bool s_6, .slice A_6 n_6 c_6] 24)) 29 #[.bool s_3, .slice A_3 n_3 c_3, .bool s_6, .slice A_6 n_6 c_6])
        rw [hwa7]; simpa using this
      rw [← hwa7]
      clear hwa7
      refine (rfmtLQ (Fz.mk h_3 h_6) hq hT.out).mono ?_
      rintro e w8 ⟨rfl, hup⟩
      replace hk2 := hk2.up hup
      replace hk11 := hk11.up hup
      replace h_3 := h_3.up hup
      replace h_6 := h_6.up hup
      replace hupw := hupw.trans hup
      clear hup
      have hk11c0 := hk11.cell (i := 0) rfl
      have hk11c1 := hk11.cell (i := 1) rfl
      have hk11c2 := hk11.cell (i := 2) rfl
      have hk11c3 := hk11.cell (i := 3) rfl
      have hk11l := hk11.lt
      have hk2c0 := hk2.cell (i := 0) rfl
      have hk2c1 := hk2.cell (i := 1) rfl
      have hk2c2 := hk2.cell (i := 2) rfl
      have hk2c3 := hk2.cell (i := 3) rfl
      have hk2l := hk2.lt
      have hk2f0 := hk2.frozen 0
      have hk2f1 := hk2.frozen 1
      have hk2f2 := hk2.frozen 2
      have hk2f3 := hk2.frozen 3
      go_wp2_with fail
      clear hk11c0 hk11c1 hk11c2 hk11c3 hk11l hk2c0 hk2c1 hk2c2 hk2c3 hk2l hk2f0 hk2f1 hk2f2 hk2f3
      obtain ⟨ws9, hws9⟩ : ∃ x, x = (st4 w8 w.heap.size (.bool s_3) (.slice A_3 n_3 c_3) (.bool s_6) (.slice A_6 n_6 c_6)) := ⟨_, rfl⟩
      have h_3' := h_3.st4 hk2 (noU4 _ _ _ _ _ _ _ _) (.bool s_3) (.slice A_3 n_3 c_3) (.bool s_6) (.slice A_6 n_6 c_6)
      have h_6' := h_6.st4 hk2 (noU4 _ _ _ _ _ _ _ _) (.bool s_3) (.slice A_3 n_3 c_3) (.bool s_6) (.slice A_6 n_6 c_6)
      rw [← hws9] at h_3'
      clear h_3
      have h_3 := h_3'
      clear h_3'
      rw [← hws9] at h_6'
      clear h_6
      have h_6 := h_6'
      clear h_6'
      replace hupw := hupw.st4 (g := w.heap.size) (by omega) (.bool s_3) (.slice A_3 n_3 c_3) (.bool s_6) (.slice A_6 n_6 c_6)
      rw [← hws9] at hupw
      replace hk2 := hk2.four (.bool s_3) (.slice A_3 n_3 c_3) (.bool s_6) (.slice A_6 n_6 c_6)
      rw [← hws9] at hk2
      have hszws9 : ws9.heap.size = w8.heap.size := by rw [hws9]; simp [st4]
      unfold st4 at hws9
      rw [← hws9]
      clear hws9
      clear hszws9
      have hk2c0 := hk2.cell (i := 0) rfl
      have hk2c1 := hk2.cell (i := 1) rfl
      have hk2c2 := hk2.cell (i := 2) rfl
      have hk2c3 := hk2.cell (i := 3) rfl
      exact bodyPost_ret (v := .tuple #[.agg #[.bool s_3, .slice A_3 n_3 c_3, .bool s_6, .slice A_6 n_6 c_6], .int .i64 0]) (by simp [results, Tryz.results41, go_sem, hk2c0, hk2c1, hk2c2, hk2c3]) rfl ⟨_, rfl, Fz.mk h_3 h_6, hupw⟩
theorem rparseRQ {w : World} (s : ByteArray) (hs : s.size ≤ 999) : Calls Tryz.prog 41 #[.string s] w (PR w (parsR s)) := by
  have hl : (sL s).size ≤ 1000 := by have := sL_size s; omega
  have hr : (sR s).size ≤ 1000 := by have := sR_size s; omega
  unfold parsR parsB
  cases hh : hasB s with
  | true =>
    have h0 : 0 ≤ ix47 s := of_decide_eq_true hh
    obtain ⟨k, hk⟩ : ∃ k : Nat, ix47 s = k := ⟨(ix47 s).toNat, by omega⟩
    have eL : sL s = s.extract 0 k := by unfold sL; rw [hh, hk]; rfl
    have eR : sR s = s.extract (k + 1) s.size := by unfold sR; rw [hh, hk]; rfl
    have hkn := ix_lt hk
    rw [eL] at hl
    rw [eR] at hr
    rw [eL, eR]
    cases hb : okS (s.extract 0 k) with
    | false =>
      cases hb2 : okS (s.extract (k + 1) s.size) with
      | false => exact (rparst_1b s k w hk hkn hs hl hr hb hb2).mono fun _ _ h => PR.of h (by simp; rfl)
      | true => exact (rparst_1 s k w hk hkn hs hl hr hb hb2).mono fun _ _ h => PR.of h (by simp; rfl)
    | true =>
      cases hb2 : okS (s.extract (k + 1) s.size) with
      | false => exact (rparst_2 s k w hk hkn hs hl hr hb hb2).mono fun _ _ h => PR.of h (by simp; rfl)
      | true =>
        cases hq : lowB (valS (s.extract 0 k)) (valS (s.extract (k + 1) s.size)) with
        | false => exact (rparst_3 s k w hk hkn hs hl hr hb hb2 hq).mono fun _ _ h => PR.of h (by simp; rfl)
        | true =>
          by_cases hT : rtx (valS (s.extract 0 k)) (valS (s.extract (k + 1) s.size)) = s
          · exact (rparst_5 s k w hk hkn hs hl hr hb hb2 hq hT).mono fun _ _ h => PR.of h (by simp [hT])
          · exact (rparst_4 _ s k w hk hkn hs hl hr hb hb2 hq rfl (ne_list hT)).mono fun _ _ h => PR.of h (by simp [hT]; rfl)
  | false =>
    have h0 : ¬ 0 ≤ ix47 s := of_decide_eq_false hh
    have hk : ix47 s = -1 := by have := Lib.indexByte_ge s.data.toList 47; unfold ix47 at *; omega
    have eL : sL s = s := by unfold sL; rw [hh]; rfl
    rw [eL] at hl
    rw [eL, sR_no hh]
    cases hb : okS s with
    | false =>
      cases hb2 : okS ⟨#[49]⟩ with
      | false => exact (rparsf_1b s w hk hs hl hb hb2).mono fun _ _ h => PR.of h (by simp; rfl)
      | true => exact (rparsf_1 s w hk hs hl hb hb2).mono fun _ _ h => PR.of h (by simp; rfl)
    | true =>
      cases hb2 : okS ⟨#[49]⟩ with
      | false => exact (rparsf_2 s w hk hs hl hb hb2).mono fun _ _ h => PR.of h (by simp; rfl)
      | true =>
        cases hq : lowB (valS s) (valS ⟨#[49]⟩) with
        | false => exact (rparsf_3 s w hk hs hl hb hb2 hq).mono fun _ _ h => PR.of h (by simp; rfl)
        | true =>
          by_cases hT : rtx (valS s) (valS ⟨#[49]⟩) = s
          · exact (rparsf_5 s w hk hs hl hb hb2 hq hT).mono fun _ _ h => PR.of h (by simp [hT])
          · exact (rparsf_4 _ s w hk hs hl hb hb2 hq rfl (ne_list hT)).mono fun _ _ h => PR.of h (by simp [hT]; rfl)

end Go.Proofs.YtldifgfpecicnaaGreatDoor
