/- Walks: what finish returns. -/
import Derived.Test.YtdnhecgjfanakaaDoorQ
namespace Go.Proofs.YtdnhecgjfanakaaDoor
open Go.RowKit

theorem sumB_len (s : St) : (sumB s).length = 32 := rfl
theorem sumB_get (s : St) {k i r sh x b : Nat} (hk : k < 32) (hi : i = k / 4) (hr : r = k % 4) (hsh : sh + r * 8 = 24) (hx : x = s.list.getD i 0) (hb : b = x / 2 ^ sh % 256) : (sumB s).getD k 0 = b := by
  subst hi hr hx hb
  obtain rfl : sh = 24 - k % 4 * 8 := by omega
  clear hsh
  have : k = 0 ∨ k = 1 ∨ k = 2 ∨ k = 3 ∨ k = 4 ∨ k = 5 ∨ k = 6 ∨ k = 7 ∨ k = 8 ∨ k = 9 ∨ k = 10 ∨ k = 11 ∨ k = 12 ∨ k = 13 ∨ k = 14 ∨ k = 15 ∨ k = 16 ∨ k = 17 ∨ k = 18 ∨ k = 19 ∨ k = 20 ∨ k = 21 ∨ k = 22 ∨ k = 23 ∨ k = 24 ∨ k = 25 ∨ k = 26 ∨ k = 27 ∨ k = 28 ∨ k = 29 ∨ k = 30 ∨ k = 31 := by omega
  rcases this with rfl | rfl | rfl | rfl | rfl | rfl | rfl | rfl | rfl | rfl | rfl | rfl | rfl | rfl | rfl | rfl | rfl | rfl | rfl | rfl | rfl | rfl | rfl | rfl | rfl | rfl | rfl | rfl | rfl | rfl | rfl | rfl <;> first | rfl | exact (Nat.div_one _ ▸ rfl)
theorem sumB_lt (s : St) : ∀ x ∈ sumB s, x < 256 := by
  intro x hx
  unfold sumB at hx
  rw [List.mem_flatMap] at hx
  obtain ⟨y, _, h⟩ := hx
  simp at h
  omega
theorem take_step {L : List Nat} {n k b : Nat} (hL : L.length = n) (hk : k < n) (hb : L.getD k 0 = b) : (L.take k ++ List.replicate (n - k) 0).set k b = L.take (k + 1) ++ List.replicate (n - (k + 1)) 0 := by
  subst hL
  rw [List.set_append_right _ _ (by rw [List.length_take]; omega), List.length_take, Nat.min_eq_left (by omega), Nat.sub_self]
  rw [show L.length - k = (L.length - (k + 1)) + 1 by omega, List.replicate_succ, List.set_cons_zero, List.take_add_one]
  have : L[k]? = some b := by rw [← hb]; simp [List.getD, hk]
  rw [this]
  simp
theorem Tryd.info43 : (Tryd.prog.info? 43).map (·.size) = some 73 := by kernel_rfl
theorem hcs_size (s : St) {buf : List Nat} (h : buf.length = 64) (n : Nat) : (hcs s buf n).toArray.size = 73 := by rw [List.size_toArray, hcs_len s h]
theorem hcs_one (s : St) (buf : List Nat) (n : Nat) : (hcs s buf n).toArray.all (·.oneCell') = true := by
  unfold hcs u32l u8s
  simp [List.all_eq_true]
  refine ⟨fun x _ => rfl, fun x _ => rfl, rfl⟩
/-- What returns a sum. -/
def RetSum (w : World) (l : List Nat) (e : Ending) (w' : World) : Prop := e = .returned (.agg (u8a (sumL l))) ∧ Up w w'
set_option maxRecDepth 1000000 in
set_option maxHeartbeats 8000000 in
theorem finish_any (g : Nat) (l : List Nat) (w : World) (hH : HashAt w g l) (hT : Tabs w) (hlen : l.length ≤ 900000) : Calls Tryd.prog 18 #[.pointer (some ⟨g, 0, none⟩)] w (RetSum w l) := by
  have hgl := hH.lt
  obtain ⟨buf, hb64, hbl, hbt, hbk⟩ := hH
  have HT := hide hT
  have HB64 := hide hb64
  have Hbl := hide hbl
  have Hbt := hide hbt
  obtain ⟨n, Hn⟩ : ∃ n, Hid (n = l.length) := ⟨_, rfl⟩
  have hn : n ≤ 900000 := by rw [Hn.out]; exact hlen
  rw [← Hn.out] at hbk
  have h3 := hT.lt
  clear hT hb64 hbl hbt hlen
  have hPl : Hid ((padL n).length ≤ 200) := by show _ ≤ _; rw [padL_eq n _ rfl]; simp [lenB]; omega
  have hzh := zero_hash
  go_enter Tryd.func18, Tryd.ntmps18
  go_wp2_with (first
    | (refine wpList_load_row rfl 43 _ rfl g rfl 43 (hcs (stOf l) buf n).toArray (0, 0) _ (hbk.alloc _) Tryd.underlying43 rfl (by rw [Tryd.info43, List.size_toArray, hcs_len _ HB64.out]) ?_)
    | (refine st_row rfl 43 _ _ rfl (w.heap.size + 1) (hcs (stOf l) buf n).toArray rfl rfl 43 _ (Bk.new1 _ _ _ _) (by rw [Tryd.info43, List.size_toArray, hcs_len _ HB64.out]) (by rw [hcs_size _ HB64.out]; rfl) (hcs_one _ _ _) ?_; intro w2 hb2 hg2 hz2; have hcg := ((hbk.alloc _).alloc _).grownO hg2 (by omega); have cn := hcg.cell (hcs_n _ HB64.out n)))
  have h2 : HashAt w2 (w.heap.size + 1) l := ⟨buf, HB64.out, Hbl.out, Hbt.out, by rw [← Hn.out]; exact hb2⟩
  have hup2 : Up w w2 := (((Up.refl w).alloc _).alloc _).grownS hg2 (by omega)
  have hr2 := ((Bk.new w 46 _).alloc _).grownO hg2 (by omega)
  go_wp2_with fail
  refine (padding_any n _ (by omega)).mono ?_
  rintro e w3 ⟨rfl, hu3⟩
  go_wp2_with fail
  refine (write_any (w.heap.size + 1) l (bs (padL n)) w3 (h2.up hu3) (HT.out.up (hup2.trans hu3)) (by omega) (by rw [bs_size, ← Hn.out]; have := hPl.out; omega)).mono ?_
  rintro e w4 ⟨rfl, h4, hg4⟩
  rw [by_bs _ (padL_lt n)] at h4
  have hr4 := (hr2.up hu3).grownO hg4 (by omega)
  have hup4 := (hup2.trans hu3).grownS hg4 (by omega)
  have HT4 := hide (HT.out.up hup4)
  obtain ⟨buf4, _, _, _, hb4⟩ := h4
  obtain ⟨S, HS⟩ : ∃ S, Hid (S = stOf (l ++ padL n)) := ⟨_, rfl⟩
  rw [← HS.out] at hb4
  obtain ⟨n4, Hn4⟩ : ∃ n4, Hid (n4 = (l ++ padL n).length) := ⟨_, rfl⟩
  rw [← Hn4.out] at hb4
  clear hr2 hcg hbk hb2 hg2 hz2 hg4 cn h2 hup2 hu3
  go_wp2
  go_loopw [15, 5] (fun c _ wr => ∃ k : Nat, c = .int .i64 k ∧ k ≤ 32 ∧ Bk wr w4.heap.size 46 (u8a ((sumB S).take k ++ List.replicate (32 - k) 0)) ∧ Bk wr (w.heap.size + 1) 43 (hcs S buf4 n4).toArray ∧ Bk wr w.heap.size 46 (u8a (List.replicate 32 0)) ∧ Up w wr) (fun c _ _ => 32 - (intOf c).toNat)
  case atStart => exact ⟨0, rfl, by omega, Bk.new _ _ _, hb4.alloc _, hr4.alloc _, hup4.alloc _⟩
  case round =>
    have hsz4 := hb4.lt
    clear hb4 hr4 hup4
    obtain ⟨k, rfl, hk, hbA, hbH, hbR, hup⟩ := hrel
    by_cases hlt : k < 32
    · obtain ⟨i4, Hi4⟩ : ∃ i, Hid (i = k / 4) := ⟨_, rfl⟩
      obtain ⟨r4, Hr4⟩ : ∃ i, Hid (i = k % 4) := ⟨_, rfl⟩
      obtain ⟨sh, Hsh⟩ : ∃ i, Hid (i + r4 * 8 = 24) := ⟨24 - r4 * 8, by show _ + _ = _; rw [Hr4.out]; omega⟩
      have hi4 : i4 < 8 := by rw [Hi4.out]; omega
      have hr4 : r4 < 4 := by rw [Hr4.out]; omega
      have e4 : (k : Int) / 4 = (i4 : Int) := by rw [Hi4.out]; omega
      have er : (k : Int).tmod 4 = (r4 : Int) := by rw [Hr4.out, Int.tmod_eq_emod_of_nonneg (by omega)]; omega
      have es : 24 - (r4 : Int) * 8 = (sh : Int) := by have := Hsh.out; omega
      obtain ⟨x, Hx⟩ : ∃ x, Hid (x = S.list.getD i4 0) := ⟨_, rfl⟩
      obtain ⟨b, Hb⟩ : ∃ b, Hid (b = x / 2 ^ sh % 256) := ⟨_, rfl⟩
      have eb : ((x : Int) / 2 ^ sh) % 256 = (b : Int) := by rw [Hb.out]; simp
      have cx : wr.cell? ⟨w.heap.size + 1, i4, none⟩ = some (.int .u32 (x : Int)) := by rw [Hx.out]; exact hbH.cell (hcs_st S buf4 n4 hi4)
      have hlen : ((sumB S).take k ++ List.replicate (32 - k) 0).length = 32 := by rw [List.length_append, List.length_take, List.length_replicate, sumB_len]; omega
      obtain ⟨z, cz⟩ : ∃ z : Nat, wr.cell? ⟨w4.heap.size, k, none⟩ = some (.int .u8 (z : Int)) := ⟨_, hbA.cell (u8a_get (by rw [hlen]; exact hlt))⟩
      have fz := hbA.frozen k
      have HL := hide (take_step (sumB_len S) hlt (sumB_get S hlt Hi4.out Hr4.out Hsh.out Hx.out Hb.out))
      clear hlen
      go_wp2
      go_roundw
      case rel =>
        refine ⟨k + 1, by go_num, by omega, ?_, hbH.far (by simp; omega) _, hbR.far (by simp; omega) _, hup.setCell (by simp; omega) _⟩
        first
          | (rw [eb, ← HL.out, ← u8a_set]; exact hbA.setCell k _)
          | (rw [← HL.out, ← u8a_set]; exact hbA.setCell k _)
      case measure => simp [intOf]; omega
    · have hge : decide ((k : Int) < 32) = false := decide_eq_false (by omega)
      have HE : Hid ((sumB S).take k ++ List.replicate (32 - k) 0 = sumL l) := by
        show _ = _
        rw [sumL_eq, ← Hn.out, ← HS.out, List.take_of_length_le (by rw [sumB_len]; omega), show 32 - k = 0 by omega]
        simp
      rw [HE.out] at hbA
      have hlen : (sumL l).length = 32 := by rw [sumL_eq]; rfl
      have Hlen := hide hlen
      clear hlen
      go_wp2_with (first
        | (refine wpList_load_row rfl 46 _ rfl w4.heap.size rfl 46 (u8a (sumL l)) (0, 0) _ hbA Tryd.underlying46 rfl (by rw [Tryd.info46, u8a_size, Hlen.out]) ?_)
        | (refine st_row rfl 46 _ _ rfl w.heap.size (u8a (sumL l)) rfl rfl 46 _ hbR (by rw [Tryd.info46, u8a_size, Hlen.out]) (by rw [u8a_size, u8a_size, Hlen.out]; rfl) (u8a_one _) ?_; intro w6 hb6 hg6 hz6))
      refine bodyPost_ret (v := .agg (u8a (sumL l))) (results_cell_row rfl _ _ w.heap.size 46 (u8a (sumL l)) (0, 0) _ rfl hb6 Tryd.underlying46 rfl (by rw [Tryd.info46, u8a_size, Hlen.out])) rfl ⟨rfl, hup.grownS hg6 (Nat.le_refl _)⟩
end Go.Proofs.YtdnhecgjfanakaaDoor
