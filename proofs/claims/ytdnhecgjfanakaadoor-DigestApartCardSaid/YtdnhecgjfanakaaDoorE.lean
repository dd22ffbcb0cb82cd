/- Walks: the numbers W of a block. -/
import Derived.Test.YtdnhecgjfanakaaDoorBlk
import Derived.Deep.QuietTactic
import Derived.BigQuiet
namespace Go.Proofs.YtdnhecgjfanakaaDoor
open Go.RowKit

theorem fillOne_len (w : List Nat) (i b : Nat) : (fillOne w i b).length = w.length := by unfold fillOne; simp
theorem fill_step {bl : List Nat} {k b : Nat} (hk : k < bl.length) (hb : b = bl.getD k 0) (ws : List Nat) : fillE (bl.drop k) k ws = fillE (bl.drop (k + 1)) (k + 1) (fillOne ws k b) := by
  rw [List.drop_eq_getElem_cons hk]
  have : bl[k] = b := by rw [hb]; simp [List.getD, hk]
  rw [this]
  show forceL _ _ = _
  rw [forceL_eq]
theorem ext_step {k : Nat} (hk : k < 64) (ws : List Nat) : extE (64 - k) k ws = extE (64 - (k + 1)) (k + 1) (ws.set k (nextW ws k)) := by
  obtain ⟨n, hn⟩ : ∃ n, n = 64 - (k + 1) := ⟨_, rfl⟩
  rw [show 64 - k = n + 1 by omega, ← hn]
  show force _ _ = _
  rw [force_eq, forceL_eq]
theorem getD_lt {l : List Nat} (h : ∀ x ∈ l, x < 256) (k : Nat) : l.getD k 0 < 256 := by
  rw [List.getD]
  rcases e : l[k]? with _ | x
  · decide
  · exact h x (List.mem_of_getElem? e)
theorem getD_lt' {l : List Nat} (h : ∀ x ∈ l, x < 4294967296) (k : Nat) : l.getD k 0 < 4294967296 := by
  rw [List.getD]
  rcases e : l[k]? with _ | x
  · decide
  · exact h x (List.mem_of_getElem? e)
theorem set_lt {l : List Nat} (h : ∀ x ∈ l, x < 4294967296) {k v : Nat} (hv : v < 4294967296) : ∀ x ∈ l.set k v, x < 4294967296 := by
  intro x hx
  rcases List.mem_or_eq_of_mem_set hx with h1 | h1
  · exact h x h1
  · rw [h1]; exact hv
set_option maxRecDepth 1000000 in
set_option maxHeartbeats 4000000 in
theorem expand_any (bl : List Nat) (w : World) (hl : bl.length = 64) (hb : ∀ x ∈ bl, x < 256) : Calls Tryd.prog 20 #[.agg (u8a bl)] w fun e w' => e = .returned (.agg (u32s (expandL bl))) ∧ Up w w' := by
  have HL := hide hl
  have HB := hide hb
  clear hl hb
  go_enter Tryd.func20, Tryd.ntmps20
  go_wp2_with (refine wpList_load_row rfl 41 _ rfl w.heap.size rfl 41 (u8a bl) (0, 0) _ (((Bk.new w _ (u8a bl)).alloc _).alloc _) Tryd.underlying41 rfl (by rw [Tryd.info41, u8a_size, HL.out]) ?_)
  go_loopw [12, 4, 5] (fun c _ _ wr => ∃ (k : Nat) (ws : List Nat), c = .int .i64 k ∧ k ≤ 64 ∧ Hid (ws.length = 64) ∧ Hid (fillE (bl.drop k) k ws = fillE bl 0 (List.replicate 64 0)) ∧ Hid (∀ x ∈ ws, x < 4294967296) ∧ Bk wr (w.heap.size + 1 + 1) 51 (u32s ws) ∧ Bk wr (w.heap.size + 1) 51 (u32s (List.replicate 64 0)) ∧ Up w wr) (fun c _ _ _ => 64 - (intOf c).toNat)
  case atStart =>
    exact ⟨0, List.replicate 64 0, rfl, by omega, by rfl, rfl, fun x hx => by rw [(List.mem_replicate.1 hx).2]; decide, Bk.new2 _ _ _ _ _, (Bk.new1 _ _ _ _).alloc _, (((Up.refl w).alloc _).alloc _).alloc _⟩
  case round =>
    obtain ⟨k, ws, rfl, hk, HW, HF, HlW, hbk, hres, hup⟩ := hrel
    by_cases hlt : k < 64
    · obtain ⟨b, Hb⟩ : ∃ b, Hid (b = bl.getD k 0) := ⟨_, rfl⟩
      have hix : ∀ W : World, (Instr.index 41 (.agg (u8a bl)) (.int .i64 (k : Int))).run Tryd.prog W = .ok (.int .u8 (b : Int)) W := fun W => ix_arr64 bl k b HL.out hlt Hb W
      obtain ⟨i4, Hi4⟩ : ∃ i4, Hid (i4 = k / 4) := ⟨_, rfl⟩
      have hi4 : i4 < 64 := by rw [Hi4.out]; omega
      have e4 : (k : Int) / 4 = (i4 : Int) := by rw [Hi4.out]; omega
      obtain ⟨y, Hy⟩ : ∃ y, Hid (y = ws.getD i4 0) := ⟨_, rfl⟩
      have hc : wr.cell? ⟨w.heap.size + 1 + 1, i4, none⟩ = some (.int .u32 (y : Int)) := by rw [Hy.out]; exact hbk.cell (u32s_get (by rw [HW.out]; exact hi4))
      have hfr := hbk.frozen i4
      have hb2 : b < 4294967296 := by rw [Hb.out]; exact Nat.lt_trans (getD_lt HB.out k) (by decide)
      obtain ⟨v, Hv⟩ : ∃ v, Hid (v = y * 256 % 4294967296 ||| b) := ⟨_, rfl⟩
      have ev : bits .or .u32 ((y : Int) * 256 % 4294967296) (b : Int) = (v : Int) := by
        rw [Hv.out]
        have := or_c (y * 256 % 4294967296) b
        rw [Nat.mod_eq_of_lt (Nat.or_lt_two_pow (n := 32) (Nat.mod_lt _ (by decide)) hb2)] at this
        exact this
      have HS : Hid (fillE (bl.drop (k + 1)) (k + 1) (ws.set i4 v) = fillE bl 0 (List.replicate 64 0)) := by
        show _ = _
        rw [← HF.out, fill_step (b := b) (by rw [HL.out]; exact hlt) Hb.out]
        unfold fillOne
        rw [← Hi4.out, ← Hy.out, ← Hv.out]
      go_wp2
      go_roundw
      case rel => exact ⟨k + 1, ws.set i4 v, by go_num, by omega, by show _ = _; rw [List.length_set]; exact HW.out, HS, set_lt HlW.out (by rw [Hv.out]; exact Nat.or_lt_two_pow (n := 32) (Nat.mod_lt _ (by decide)) hb2), by rw [← u32s_set]; exact hbk.setCell i4 _, hres.far (by simp) _, hup.setCell (by simp; omega) _⟩
      case measure => simp [intOf]; omega
    · have hge : decide ((k : Int) < 64) = false := decide_eq_false (by omega)
      have HX : Hid (extE (64 - 16) 16 ws = expandL bl) := by
        show _ = _
        unfold expandL
        rw [← HF.out, List.drop_of_length_le (by rw [HL.out]; omega)]
        rfl
      clear HF
      go_wp2
      go_loopw [6, 7, 8, 9, 10] (fun c _ _ _ _ wr => ∃ (k : Nat) (ws : List Nat), c = .int .i64 k ∧ 16 ≤ k ∧ k ≤ 64 ∧ Hid (ws.length = 64) ∧ Hid (extE (64 - k) k ws = expandL bl) ∧ Hid (∀ x ∈ ws, x < 4294967296) ∧ Bk wr (w.heap.size + 1 + 1) 51 (u32s ws) ∧ Bk wr (w.heap.size + 1) 51 (u32s (List.replicate 64 0)) ∧ Up w wr) (fun c _ _ _ _ _ => 64 - (intOf c).toNat)
      case atStart => exact ⟨16, ws, rfl, by omega, by omega, HW, HX, HlW, hbk, hres, hup⟩
      case round =>
        clear hbk hres hup HX HW
        obtain ⟨k, ws, rfl, hk16, hk, HW, HX, HlW, hbk, hres, hup⟩ := hrel
        by_cases hlt : k < 64
        · obtain ⟨i1, Hi1⟩ : ∃ i, Hid (i = k - 15) := ⟨_, rfl⟩
          obtain ⟨i2, Hi2⟩ : ∃ i, Hid (i = k - 2) := ⟨_, rfl⟩
          obtain ⟨i3, Hi3⟩ : ∃ i, Hid (i = k - 16) := ⟨_, rfl⟩
          obtain ⟨i4, Hi4⟩ : ∃ i, Hid (i = k - 7) := ⟨_, rfl⟩
          have l1 : i1 < 64 := by rw [Hi1.out]; omega
          have l2 : i2 < 64 := by rw [Hi2.out]; omega
          have l3 : i3 < 64 := by rw [Hi3.out]; omega
          have l4 : i4 < 64 := by rw [Hi4.out]; omega
          have e1 : (k : Int) - 15 = (i1 : Int) := by rw [Hi1.out]; omega
          have e2 : (k : Int) - 2 = (i2 : Int) := by rw [Hi2.out]; omega
          have e3 : (k : Int) - 16 = (i3 : Int) := by rw [Hi3.out]; omega
          have e4 : (k : Int) - 7 = (i4 : Int) := by rw [Hi4.out]; omega
          obtain ⟨x, Hx⟩ : ∃ x, Hid (x = ws.getD i1 0) := ⟨_, rfl⟩
          obtain ⟨y, Hy⟩ : ∃ x, Hid (x = ws.getD i2 0) := ⟨_, rfl⟩
          obtain ⟨p, Hp⟩ : ∃ x, Hid (x = ws.getD i3 0) := ⟨_, rfl⟩
          obtain ⟨q, Hq⟩ : ∃ x, Hid (x = ws.getD i4 0) := ⟨_, rfl⟩
          have c1 : wr.cell? ⟨w.heap.size + 1 + 1, i1, none⟩ = some (.int .u32 (x : Int)) := by rw [Hx.out]; exact hbk.cell (u32s_get (by rw [HW.out]; exact l1))
          have c2 : wr.cell? ⟨w.heap.size + 1 + 1, i2, none⟩ = some (.int .u32 (y : Int)) := by rw [Hy.out]; exact hbk.cell (u32s_get (by rw [HW.out]; exact l2))
          have c3 : wr.cell? ⟨w.heap.size + 1 + 1, i3, none⟩ = some (.int .u32 (p : Int)) := by rw [Hp.out]; exact hbk.cell (u32s_get (by rw [HW.out]; exact l3))
          have c4 : wr.cell? ⟨w.heap.size + 1 + 1, i4, none⟩ = some (.int .u32 (q : Int)) := by rw [Hq.out]; exact hbk.cell (u32s_get (by rw [HW.out]; exact l4))
          have cz : ∃ z : Nat, wr.cell? ⟨w.heap.size + 1 + 1, k, none⟩ = some (.int .u32 (z : Int)) := ⟨_, hbk.cell (u32s_get (by rw [HW.out]; exact hlt))⟩
          obtain ⟨z, cz⟩ := cz
          have hfr := hbk.frozen k
          have hx : x < 4294967296 := by rw [Hx.out]; exact getD_lt' HlW.out i1
          have hy : y < 4294967296 := by rw [Hy.out]; exact getD_lt' HlW.out i2
          obtain ⟨s0, Hs0⟩ : ∃ s0, Hid (s0 = sOne x) := ⟨_, rfl⟩
          obtain ⟨s1, Hs1⟩ : ∃ s1, Hid (s1 = sTwo y) := ⟨_, rfl⟩
          have f0 : bits .xor .u32 (bits .xor .u32 ((rr x 7 : Nat) : Int) ((rr x 18 : Nat) : Int)) ((x : Int) / 8) = (s0 : Int) := by
            rw [Hs0.out, xor_n (rr_lt hx) (rr_lt hx)]
            exact xor_n (Nat.xor_lt_two_pow (n := 32) (rr_lt hx) (rr_lt hx)) (b := x / 8) (by omega)
          have f1 : bits .xor .u32 (bits .xor .u32 ((rr y 17 : Nat) : Int) ((rr y 19 : Nat) : Int)) ((y : Int) / 1024) = (s1 : Int) := by
            rw [Hs1.out, xor_n (rr_lt hy) (rr_lt hy)]
            exact xor_n (Nat.xor_lt_two_pow (n := 32) (rr_lt hy) (rr_lt hy)) (b := y / 1024) (by omega)
          obtain ⟨v, Hv⟩ : ∃ v, Hid (v = (((p + s0) % 4294967296 + q) % 4294967296 + s1) % 4294967296) := ⟨_, rfl⟩
          have HS : Hid (extE (64 - (k + 1)) (k + 1) (ws.set k v) = expandL bl) := by
            show _ = _
            rw [← HX.out, ext_step hlt]
            unfold nextW
            rw [← Hi1.out, ← Hi2.out, ← Hi3.out, ← Hi4.out, ← Hx.out, ← Hy.out, ← Hp.out, ← Hq.out, ← Hs0.out, ← Hs1.out, ← Hv.out]
          go_wp2
          go_quiet (fail)
          go_wp2_with fail
          refine (rot_7 x _ hx).mono ?_
          rintro e w' ⟨rfl, rfl⟩
          go_wp2_with fail
          refine (rot_18 x _ hx).mono ?_
          rintro e w' ⟨rfl, rfl⟩
          go_wp2_with fail
          refine (rot_17 y _ hy).mono ?_
          rintro e w' ⟨rfl, rfl⟩
          go_wp2_with fail
          refine (rot_19 y _ hy).mono ?_
          rintro e w' ⟨rfl, rfl⟩
          go_wp2
          go_region
          all_goals go_wp2
          all_goals go_roundw
          case rel =>
            have ev : ((p : Int) + s0 + q + s1) % 4294967296 = (v : Int) := by rw [Hv.out]; omega
            rw [ev]
            exact ⟨k + 1, ws.set k v, by go_num, by omega, by omega, by show _ = _; rw [List.length_set]; exact HW.out, HS, set_lt HlW.out (by rw [Hv.out]; exact Nat.mod_lt _ (by decide)), by rw [← u32s_set]; exact (hbk.drewN _).setCell k _, (hres.drewN _).far (by simp) _, (hup.drewN _).setCell (by simp; omega) _⟩
          case measure => simp [intOf]; omega
        · obtain rfl : k = 64 := by omega
          have HR : Hid (ws = expandL bl) := HX.out
          go_wp2_with (first | (refine wpList_load_row rfl 51 _ rfl (w.heap.size + 1 + 1) rfl 51 (u32s ws) (0, 0) _ hbk Tryd.underlying51 rfl (by rw [Tryd.info51, u32s_size, HW.out]) ?_) | (refine wpList_store_row rfl 51 _ _ rfl (w.heap.size + 1) (u32s ws) rfl rfl 51 _ hres (by rw [Tryd.info51, u32s_size, HW.out]) (by rw [u32s_size, u32s_size, HW.out]; rfl) (u32s_one _) ?_))
          refine bodyPost_ret (v := .agg (u32s ws)) (results_cell_row rfl _ _ (w.heap.size + 1) 51 (u32s ws) (0, 0) _ rfl (setRow_heap _ _ _ _ _ _ hres) Tryd.underlying51 rfl (by rw [Tryd.info51, u32s_size, HW.out])) rfl ⟨by rw [HR.out], hup.setRow (by omega) _⟩
end Go.Proofs.YtdnhecgjfanakaaDoor
