/- Walks: Write of a hash. -/
import Derived.Test.YtdnhecgjfanakaaDoorG
namespace Go.Proofs.YtdnhecgjfanakaaDoor
open Go.RowKit

def strLen (v : Value) : Nat := match v with | .string s => s.size | _ => 0
set_option maxRecDepth 1000000 in
set_option maxHeartbeats 8000000 in
theorem write_any (g : Nat) (l : List Nat) (s : ByteArray) (w : World) (hH : HashAt w g l) (hT : Tabs w) (hg : 3 ≤ g) (hlen : l.length + s.size ≤ 1000000) : Calls Tryd.prog 9 #[.pointer (some ⟨g, 0, none⟩), .string s] w fun e w' => e = .returned (.tuple #[]) ∧ HashAt w' g (l ++ by_ s) ∧ w.grownBy w' (some g) := by
  have HT := hide hT
  have HH := hide hH
  clear hT hH
  go_enter Tryd.func9, Tryd.ntmps9
  go_wp2
  go_loopw [1, 4] (fun x _ wr => ∃ (d : List Nat) (t : ByteArray), x = .string t ∧ Hid (d ++ by_ t = l ++ by_ s) ∧ d.length + t.size ≤ 1000000 ∧ HashAt wr g d ∧ w.grownBy wr (some g)) (fun x _ _ => strLen x)
  case atStart => exact ⟨l, s, rfl, rfl, hlen, HH.out, World.grownBy.refl _ _⟩
  case round =>
    obtain ⟨d, t, rfl, HD, hsum, ⟨buf, hb64, hbl, hbt, hbk⟩, hgr⟩ := hrel
    by_cases hpos : 0 < t.size
    · obtain ⟨n, Hn⟩ : ∃ n, Hid (n = d.length) := ⟨_, rfl⟩
      obtain ⟨r, Hr⟩ : ∃ r, Hid (r = n % 64) := ⟨_, rfl⟩
      obtain ⟨m, Hm⟩ : ∃ m, Hid (m = min t.size (64 - r)) := ⟨_, rfl⟩
      have hn : n + t.size ≤ 1000000 := by rw [Hn.out]; exact hsum
      have hr : r < 64 := by rw [Hr.out]; omega
      have er : (n : Int).tmod 64 = (r : Int) := by rw [Hr.out, Int.tmod_eq_emod_of_nonneg (by omega)]; omega
      have hsl : ∀ W : World, (Instr.sliceAt 41 (.pointer (some ⟨g, 8, none⟩)) (some (.int .u64 (r : Int))) none none).run Tryd.prog W = .ok (.slice (some ⟨g, 8 + r, none⟩) (64 - r) (64 - r)) W := fun W => slice_block g r hr W
      have cn : wr.cell? ⟨g, 72, none⟩ = some (.int .u64 (n : Int)) := by rw [Hn.out]; exact hbk.cell (hcs_n _ hb64 _)
      have hc64 := hide hb64
      have hcl := hide hbl
      have hct := hide hbt
      have HN := hide hgr
      obtain ⟨c, Hc⟩ : ∃ c, Hid (c = (by_ t).take m) := ⟨_, rfl⟩
      have Hcm : Hid (m = c.length) := by show m = _; rw [Hc.out, List.length_take, by_len, Hm.out]; omega
      have Hcb : Hid (∀ x ∈ c, x < 256) := by show ∀ x ∈ c, x < 256; rw [Hc.out]; exact fun x hx => by_lt t x (List.mem_of_mem_take hx)
      have hm0 : 0 < m := by rw [Hm.out]; omega
      have hmt : m ≤ t.size := by rw [Hm.out]; omega
      have hm64 : r + m ≤ 64 := by rw [Hm.out]; omega
      have hslt : ∀ W : World, (Instr.slice 9 (.string t) (some (.int .i64 (m : Int))) none none).run Tryd.prog W = .ok (.string (t.extract m t.size)) W := fun W => by rw [run_slice_string_l W _ _ Tryd.underlying9 .i64 _ (by omega) (by omega)]; simp only [Int.toNat_natCast]
      obtain ⟨n2, Hn2⟩ : ∃ x, Hid (x = n + m) := ⟨_, rfl⟩
      have en2 : (n : Int) + (m : Int) = (n2 : Int) := by rw [Hn2.out]; omega
      have hn2 : n2 ≤ 1000000 := by rw [Hn2.out]; omega
      obtain ⟨r2, Hr2⟩ : ∃ x, Hid (x = n2 % 64) := ⟨_, rfl⟩
      have er2 : (n2 : Int).tmod 64 = (r2 : Int) := by rw [Hr2.out, Int.tmod_eq_emod_of_nonneg (by omega)]; omega
      have HD2 : Hid ((d ++ c) ++ by_ (t.extract m t.size) = l ++ by_ s) := by
        show _ = _
        rw [← HD.out, by_extract, List.append_assoc, Hc.out, List.take_of_length_le (l := (by_ t).drop m) (by rw [List.length_drop, by_len]; omega), List.take_append_drop]
      have hlt2 : (t.extract m t.size).size < t.size := by rw [ByteArray.size_extract]; omega
      have hsum2 : (d ++ c).length + (t.extract m t.size).size ≤ 1000000 := by rw [ByteArray.size_extract, List.length_append, ← Hcm.out, ← Hn.out]; omega
      clear hsum hb64 hbl hbt hgr
      by_cases hB : r + m = 64
      · have hr2 : ((r2 : Int) == 0) = true := by rw [beq_iff_eq, Hr2.out, Hn2.out]; rw [Hr.out] at hB; omega
        obtain ⟨S, HS⟩ : ∃ S, Hid (S = stOf d) := ⟨_, rfl⟩
        obtain ⟨B, HBf⟩ : ∃ B, Hid (B = buf.take r ++ c ++ buf.drop (r + m)) := ⟨_, rfl⟩
        go_wp2
        go_still_tail 10, (by kernel_rfl)
        change wpList _ _ _ _ _ wr.drew
        refine wpList_copy_str rfl _ _ rfl g (8 + r) (64 - r) (64 - r) rfl t rfl _ 43 hbk.drew m Hm.out (by rw [hcs_len _ hc64.out]; omega) ?_
        intro w2 hbk2 hgr2 hz2
        rw [← Hc.out, Hcm.out, hcs_copy _ hc64.out _ _ _ (by rw [← Hcm.out]; omega), ← Hcm.out, ← Hn.out, ← HBf.out, ← HS.out] at hbk2
        have hb64 : B.length = 64 := by have := hc64.out; have := Hcm.out; rw [HBf.out]; simp; omega
        have cn2 := hbk2.cell (hcs_n _ hb64 _)
        have fr2 := hbk2.frozen 72
        clear cn
        have hbk3 := hbk2.setCell 72 (.int .u64 (n2 : Int))
        rw [hcs_setN _ hb64] at hbk3
        have hg3 := grown_trans (grown_trans (grown_trans HN.out (grown_drew wr _)) hgr2) (grown_set w2 g 72 (.int .u64 (n2 : Int)))
        have HB64 := hide hb64
        clear hbk2 hb64
        go_wp2
        generalize hw3 : (w2.setCell ⟨g, 72, none⟩ (.int .u64 (n2 : Int))) = w3 at hbk3 hg3 ⊢
        have HB3 := hide hbk3
        have HG3 := hide hg3
        have Hw3 := hide hw3
        have hrb := range_block S HB64.out n2 hbk3.drew
        have hrs := range_state S B n2 hbk3.drew
        have hi41 : (Tryd.prog.info? 41).map (·.size) = some (u8s B).length := by rw [Tryd.info41, u8s_len, HB64.out]
        have hi40 : (Tryd.prog.info? 40).map (·.size) = some (u32l S.list).length := by rw [Tryd.info40, st_len]
        clear hbk3 hg3 hw3
        have HBb : Hid (∀ x ∈ B, x < 256) := by
          show ∀ x ∈ B, x < 256
          rw [HBf.out]
          intro x hx
          rcases List.mem_append.1 hx with hx | hx
          · rcases List.mem_append.1 hx with hx | hx
            · exact hcl.out x (List.mem_of_mem_take hx)
            · exact Hcb.out x hx
          · exact hcl.out x (List.mem_of_mem_drop hx)
        have HT3 : Hid (Tabs w3.drew) := (HT.out.grownS HG3.out hg).up ((Up.refl _).drew)
        have HSok : Hid S.ok := by show S.ok; rw [HS.out]; exact stOf_ok d
        obtain ⟨q, Hq⟩ : ∃ q, Hid (q = compressL S B) := ⟨_, rfl⟩
        have hcomp : Calls Tryd.prog 16 #[.agg (u32s S.list), .agg (u8a B)] w3.drew fun e w' => e = .returned (.agg (u32s q.list)) ∧ Up w3.drew w' := by rw [Hq.out]; exact compress_any S B _ HSok.out HB64.out HBb.out HT3.out
        refine wp_region_any (by kernel_rfl) ?_
        change wpAny _ _ _ _ _ _ _ w3.drew
        refine take_any (i := 0) (d := 37) (v := .pointer (some ⟨g, 0, none⟩)) rfl rfl (by kernel_rfl) (by kernel_rfl) (by kernel_rfl) (fun _ _ _ h => h) (Or.inl ⟨by rfl, fun w => by go_simp⟩) ?_
        simp only [List.setIfInBounds_toArray, List.set_cons_zero, List.set_cons_succ]
        refine take_any (i := 1) (d := 38) (v := .pointer (some ⟨g, 0, none⟩)) rfl rfl (by kernel_rfl) (by kernel_rfl) (by kernel_rfl) (fun _ _ _ h => h) (Or.inl ⟨by rfl, fun w => by go_simp⟩) ?_
        simp only [List.setIfInBounds_toArray, List.set_cons_zero, List.set_cons_succ]
        refine take_any (i := 2) (d := 39) (v := .pointer (some ⟨g, 0, none⟩)) rfl rfl (by kernel_rfl) (by kernel_rfl) (by kernel_rfl) (fun _ _ _ h => h) (Or.inl ⟨by rfl, fun w => by go_simp⟩) ?_
        simp only [List.setIfInBounds_toArray, List.set_cons_zero, List.set_cons_succ]
        refine take_any (i := 3) (d := 40) (v := .pointer (some ⟨g, 0, none⟩)) rfl rfl (by kernel_rfl) (by kernel_rfl) (by kernel_rfl) (fun _ _ _ h => h) (Or.inl ⟨by rfl, fun w => by go_simp⟩) ?_
        simp only [List.setIfInBounds_toArray, List.set_cons_zero, List.set_cons_succ]
        refine take_any (i := 5) (d := 42) (v := .pointer (some ⟨g, 0, none⟩)) rfl rfl (by kernel_rfl) (by kernel_rfl) (by kernel_rfl) (fun _ _ _ h => h) (Or.inl ⟨by rfl, fun w => by go_simp⟩) ?_
        simp only [List.setIfInBounds_toArray, List.set_cons_zero, List.set_cons_succ]
        refine take_any (i := 6) (d := 43) (v := .pointer (some ⟨g, 0, none⟩)) rfl rfl (by kernel_rfl) (by kernel_rfl) (by kernel_rfl) (fun _ _ _ h => h) (Or.inl ⟨by rfl, fun w => by go_simp⟩) ?_
        simp only [List.setIfInBounds_toArray, List.set_cons_zero, List.set_cons_succ]
        refine take_any (i := 7) (d := 44) (v := .pointer (some ⟨g, 8, none⟩)) rfl rfl (by kernel_rfl) (by kernel_rfl) (by kernel_rfl) (fun _ _ _ h => h) (Or.inl ⟨by rfl, fun w => by go_simp⟩) ?_
        simp only [List.setIfInBounds_toArray, List.set_cons_zero, List.set_cons_succ]
        refine wpAny_ready (rs := [4, 8]) (by kernel_rfl) (by simp) ?_
        refine AllReady.cons rfl (fun K hK => ?_) (AllReady.cons rfl (fun K hK => ?_) AllReady.nil)
        · rw [if_pos (by rfl)]
          refine load_at (d := 41) rfl 40 (.tmp 40) rfl g 0 rfl (u32l S.list) _ hrs Tryd.underlying40 rfl hi40 ?_
          refine hK _ _ ?_
          clear hK K
          simp only [List.setIfInBounds_toArray, List.set_cons_zero, List.set_cons_succ]
          refine wpAny_ready (rs := [8]) (by kernel_rfl) (by simp) ?_
          refine AllReady.cons rfl (fun K hK => ?_) AllReady.nil
          rw [if_pos (by rfl)]
          refine load_at (d := 45) rfl 41 (.tmp 44) rfl g 8 rfl (u8s B) _ hrb Tryd.underlying41 rfl hi41 ?_
          refine hK _ _ ?_
          clear hK K
          simp only [List.setIfInBounds_toArray, List.set_cons_zero, List.set_cons_succ]
          refine wpAny_ready (rs := [9]) (by kernel_rfl) (by simp) ?_
          refine AllReady.cons rfl (fun K hK => ?_) AllReady.nil
          go_simp
          refine hcomp.mono ?_
          rintro e w4 ⟨rfl, hu4⟩
          refine hK _ _ ?_
          clear hK K
          have hb4 := (HB3.out.drew).up hu4
          have ht4 := there_block S n2 hb4
          refine take_any (i := 10) (d := 47) (v := .pointer (some ⟨g, 0, none⟩)) rfl rfl (by kernel_rfl) (by kernel_rfl) (by kernel_rfl) (fun _ _ _ h => h) (Or.inl ⟨by rfl, fun w => by go_simp⟩) ?_
          simp only [List.setIfInBounds_toArray, List.set_cons_zero, List.set_cons_succ]
          refine take_any (i := 11) (d := 48) (v := .pointer (some ⟨g, 0, none⟩)) rfl rfl (by kernel_rfl) (by kernel_rfl) (by kernel_rfl) (fun _ _ _ h => h) (Or.inl ⟨by rfl, fun w => by go_simp⟩) ?_
          simp only [List.setIfInBounds_toArray, List.set_cons_zero, List.set_cons_succ]
          refine wpAny_ready (rs := [12]) (by kernel_rfl) (by simp) ?_
          refine AllReady.cons rfl (fun K hK => ?_) AllReady.nil
          rw [if_pos (by rfl)]
          refine wp_store_mid 40 (.tmp 48) (.tmp 46) rfl g 0 (u32s q.list) rfl rfl ht4 (by rw [Tryd.info40]; rfl) (u32s_one _) ?_
          refine hK _ _ ?_
          clear hK K
          refine wpAny_done (by kernel_rfl) ?_ _
          have hb5 : Bk (w4.setCells g 0 (u32s q.list).toList) g 43 (hcs q B n2).toArray := (hash_store hb4 q).1
          have hg5 : w4.grownBy (w4.setCells g 0 (u32s q.list).toList) (some g) := (hash_store hb4 q).2
          generalize w4.setCells g 0 (u32s q.list).toList = w5 at hb5 hg5 ⊢
          have HB5 := hide hb5
          have HG5 := hide (grown_trans (grown_trans HG3.out (grown_trans (grown_drew w3 _) (grown_up hu4 _))) hg5)
          clear hb5 hg5 hb4 ht4 hu4 hcomp hrb hrs hi40 hi41
          simp only [Act.put]
          go_wp2
          go_roundw
          case rel =>
            refine ⟨d ++ c, t.extract m t.size, rfl, HD2, hsum2, hash_next hc64.out hcl.out Hcb.out Hn.out Hr.out Hcm.out hct.out hB ?_, HG5.out⟩
            rw [← Hcm.out, ← Hn2.out, ← HBf.out, ← HS.out, ← Hq.out]
            exact HB5.out
          case measure => exact hlt2
        · rw [if_pos (by rfl)]
          refine load_at (d := 45) rfl 41 (.tmp 44) rfl g 8 rfl (u8s B) _ hrb Tryd.underlying41 rfl hi41 ?_
          refine hK _ _ ?_
          clear hK K
          simp only [List.setIfInBounds_toArray, List.set_cons_zero, List.set_cons_succ]
          refine wpAny_ready (rs := [4]) (by kernel_rfl) (by simp) ?_
          refine AllReady.cons rfl (fun K hK => ?_) AllReady.nil
          rw [if_pos (by rfl)]
          refine load_at (d := 41) rfl 40 (.tmp 40) rfl g 0 rfl (u32l S.list) _ hrs Tryd.underlying40 rfl hi40 ?_
          refine hK _ _ ?_
          clear hK K
          simp only [List.setIfInBounds_toArray, List.set_cons_zero, List.set_cons_succ]
          refine wpAny_ready (rs := [9]) (by kernel_rfl) (by simp) ?_
          refine AllReady.cons rfl (fun K hK => ?_) AllReady.nil
          go_simp
          refine hcomp.mono ?_
          rintro e w4 ⟨rfl, hu4⟩
          refine hK _ _ ?_
          clear hK K
          have hb4 := (HB3.out.drew).up hu4
          have ht4 := there_block S n2 hb4
          refine take_any (i := 10) (d := 47) (v := .pointer (some ⟨g, 0, none⟩)) rfl rfl (by kernel_rfl) (by kernel_rfl) (by kernel_rfl) (fun _ _ _ h => h) (Or.inl ⟨by rfl, fun w => by go_simp⟩) ?_
          simp only [List.setIfInBounds_toArray, List.set_cons_zero, List.set_cons_succ]
          refine take_any (i := 11) (d := 48) (v := .pointer (some ⟨g, 0, none⟩)) rfl rfl (by kernel_rfl) (by kernel_rfl) (by kernel_rfl) (fun _ _ _ h => h) (Or.inl ⟨by rfl, fun w => by go_simp⟩) ?_
          simp only [List.setIfInBounds_toArray, List.set_cons_zero, List.set_cons_succ]
          refine wpAny_ready (rs := [12]) (by kernel_rfl) (by simp) ?_
          refine AllReady.cons rfl (fun K hK => ?_) AllReady.nil
          rw [if_pos (by rfl)]
          refine wp_store_mid 40 (.tmp 48) (.tmp 46) rfl g 0 (u32s q.list) rfl rfl ht4 (by rw [Tryd.info40]; rfl) (u32s_one _) ?_
          refine hK _ _ ?_
          clear hK K
          refine wpAny_done (by kernel_rfl) ?_ _
          have hb5 : Bk (w4.setCells g 0 (u32s q.list).toList) g 43 (hcs q B n2).toArray := (hash_store hb4 q).1
          have hg5 : w4.grownBy (w4.setCells g 0 (u32s q.list).toList) (some g) := (hash_store hb4 q).2
          generalize w4.setCells g 0 (u32s q.list).toList = w5 at hb5 hg5 ⊢
          have HB5 := hide hb5
          have HG5 := hide (grown_trans (grown_trans HG3.out (grown_trans (grown_drew w3 _) (grown_up hu4 _))) hg5)
          clear hb5 hg5 hb4 ht4 hu4 hcomp hrb hrs hi40 hi41
          simp only [Act.put]
          go_wp2
          go_roundw
          case rel =>
            refine ⟨d ++ c, t.extract m t.size, rfl, HD2, hsum2, hash_next hc64.out hcl.out Hcb.out Hn.out Hr.out Hcm.out hct.out hB ?_, HG5.out⟩
            rw [← Hcm.out, ← Hn2.out, ← HBf.out, ← HS.out, ← Hq.out]
            exact HB5.out
          case measure => exact hlt2
      · have hr2 : ((r2 : Int) == 0) = false := by rw [beq_eq_false_iff_ne]; rw [Hr2.out, Hn2.out]; rw [Hr.out] at hB hm64; omega
        have hlt64 : r + m < 64 := by omega
        go_wp2
        go_still_tail 10, (by kernel_rfl)
        change wpList _ _ _ _ _ wr.drew
        refine wpList_copy_str rfl _ _ rfl g (8 + r) (64 - r) (64 - r) rfl t rfl _ 43 hbk.drew m Hm.out (by rw [hcs_len _ hc64.out]; omega) ?_
        intro w2 hbk2 hgr2 hz2
        rw [← Hc.out, Hcm.out, hcs_copy _ hc64.out _ _ _ (by rw [← Hcm.out]; omega), ← Hcm.out, ← Hn.out] at hbk2
        have hb64 : (buf.take r ++ c ++ buf.drop (r + m)).length = 64 := by have := hc64.out; have := Hcm.out; simp; omega
        have cn2 := hbk2.cell (hcs_n _ hb64 _)
        have fr2 := hbk2.frozen 72
        clear cn
        have hbk3 := hbk2.setCell 72 (.int .u64 (n2 : Int))
        rw [hcs_setN _ hb64, Hn2.out] at hbk3
        have HB := hide hbk3
        have HB64 := hide hb64
        clear hbk2 hbk3 hb64
        go_wp2
        go_roundw
        case rel =>
          refine ⟨d ++ c, t.extract m t.size, rfl, HD2, hsum2, hash_same hc64.out hcl.out Hcb.out Hn.out Hr.out Hcm.out hct.out hlt64 ?_, ?_⟩
          · rw [← Hcm.out, ← Hn2.out]; have h := HB.out; rw [← Hn2.out] at h; exact h
          · exact grown_trans (grown_trans (grown_trans HN.out (grown_drew wr _)) hgr2) (grown_set _ _ _ _)
        case measure => exact hlt2
    · have HE : Hid (d = l ++ by_ s) := by
        show d = _
        have h0 : by_ t = [] := List.length_eq_zero_iff.1 (by rw [by_len]; omega)
        rw [← HD.out, h0, List.append_nil]
      have ht0 : t.size = 0 := by omega
      go_wp2
      go_end0
      refine ⟨rfl, ?_, hgr⟩
      rw [← HE.out]
      exact ⟨buf, hb64, hbl, hbt, hbk⟩
end Go.Proofs.YtdnhecgjfanakaaDoor
