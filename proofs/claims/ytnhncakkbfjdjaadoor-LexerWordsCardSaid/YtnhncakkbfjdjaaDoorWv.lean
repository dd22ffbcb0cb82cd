/- Walks: the tokens of a text. -/
import Derived.Test.YtnhncakkbfjdjaaDoorWu
namespace Go.Proofs.YtnhncakkbfjdjaaDoor
open Go.RowKit

theorem count_map (l : List UInt8) : Lib.countByte l 10 = nls (l.map UInt8.toNat) := by
  unfold Lib.countByte nls
  induction l with
  | nil => rfl
  | cons b l ih =>
    have hb := u8_eq b 10 (by decide)
    rw [List.map_cons, List.count_cons, List.count_cons, ih]
    congr 1
    have e : (b == 10) = (b.toNat == 10) := by
      rw [Bool.eq_iff_iff, beq_iff_eq, beq_iff_eq]; exact hb
    rw [e]
theorem count_any (s : ByteArray) (w : World) : Calls Tryd.prog 29 #[.string s, .string ⟨#[10]⟩] w fun e w' => e = .returned (.int .i64 (nls (by_ s) : Int)) ∧ w = w' := by
  refine (Tryd.strings_Count_one s 10 w).mono ?_
  rintro e w' ⟨rfl, rfl⟩
  exact ⟨by rw [count_map]; rfl, rfl⟩
theorem cells_new5b (w : World) (o : Obj) (x : Tk × Nat) (cs : Array Value) (t : TypeId) (hcs : cs = (tkcs x).toArray) : ∀ j u, (tkcs x)[j]? = some u → ((w.alloc o).alloc (.cells cs t)).cell? ((⟨w.heap.size + 1, 0, none⟩ : Addr).add j) = some u := by
  have h := cells_new5 (w.alloc o) x cs t hcs
  have e : (w.alloc o).heap.size = w.heap.size + 1 := by simp
  rw [e] at h
  exact h
/-- The beginning of a text that is too large. -/
def RetBig (w : World) (e : Ending) (w' : World) : Prop := e = .returned (.tuple #[.slice none 0 0, .int .i64 0, .int .i64 3]) ∧ Up w w'
theorem tokens_big (s : ByteArray) (w : World) (hs : 65536 < s.size) : Calls Tryd.prog 12 #[.string s] w (RetBig w) := by
  have d : decide ((65536 : Int) < s.size) = true := decide_eq_true (by omega)
  go_enter Tryd.func12, Tryd.ntmps12
  go_wp2
  go_ret3
  exact ⟨rfl, Up.refl _⟩
/-- A list of tokens that was read, or a line and an error. -/
theorem retToks_err {w w' : World} {base : Nat} {x : Nat ⊕ List (Tk × Nat)} {n : Nat} {e : Ending} (hx : x = .inl n) (he : e = .returned (.tuple #[.slice none 0 0, .int .i64 (n : Int), .int .i64 2])) (hu : Up w w') : RetToks w base x e w' := by
  subst hx; exact ⟨he, hu⟩
theorem retToks_ok {w w' : World} {base : Nat} {x : Nat ⊕ List (Tk × Nat)} {l : List (Tk × Nat)} {v : Value} {n : Nat} {e : Ending} (hx : x = .inr l) (he : e = .returned (.tuple #[v, .int .i64 0, .int .i64 0])) (hown : OwnT w' base v n l) (hu : Up w w') : RetToks w base x e w' := by
  subst hx; exact ⟨v, n, he, hown, hu⟩
set_option maxRecDepth 100000 in
set_option maxHeartbeats 2000000 in
theorem tokens_any (s : ByteArray) (w : World) (hs : s.size ≤ 65536) (hTab : Tabs w) : Calls Tryd.prog 12 #[.string s] w (RetToks w w.heap.size (toks (by_ s) 1)) := by
  have HTab := hide hTab
  clear hTab
  obtain ⟨l, Hl⟩ : ∃ l, Hid (l = by_ s) := ⟨_, rfl⟩
  obtain ⟨x, Hx⟩ : ∃ x, Hid (x = toks l 1) := ⟨_, rfl⟩
  have Hs : Hid (s = bs l) := by show _ = _; rw [Hl.out, bs_by]
  have Hlt : Hid (∀ x ∈ l, x < 256) := by rw [Hl.out]; exact by_lt s
  have hll : l.length ≤ 65536 := by rw [Hl.out, by_len]; exact hs
  have d : decide ((65536 : Int) < s.size) = false := decide_eq_false (by omega)
  rw [← Hl.out, ← Hx.out]
  go_enter Tryd.func12, Tryd.ntmps12
  go_wp2
  go_loopw [0, 5, 6] (fun v0 v5 v6 wr => ∃ (k m n : Nat) (ts : List (Tk × Nat)), k ≤ l.length ∧ v0 = .string (bs (l.drop k)) ∧ OwnT wr w.heap.size v5 m ts ∧ v6 = .int .i64 n ∧ Hid (x = preL ts (toks (l.drop k) n)) ∧ Up w wr ∧ m ≤ k ∧ n ≤ k + 1) (fun v0 _ _ _ => strLen v0)
  case atStart => exact ⟨0, 0, 1, [], by omega, by rw [Hs.out]; rfl, OwnT.nil _ _, rfl, by show x = _; rw [preL_nil, Hx.out]; rfl, Up.refl _, by omega, by omega⟩
  case round =>
    obtain ⟨k, m, n, ts, hk, rfl, hown, rfl, HX, hup, hm, hn⟩ := hrel
    obtain ⟨t, Ht⟩ : ∃ t, Hid (t = bs (l.drop k)) := ⟨_, rfl⟩
    rw [← Ht.out]
    have hbt : Hid (by_ t = l.drop k) := by show _ = _; rw [Ht.out]; exact by_bs _ (fun x hx => Hlt.out x (List.mem_of_mem_drop hx))
    have hts : t.size = l.length - k := by rw [← by_len, hbt.out, List.length_drop]
    have Hlen := hide (show strLen (.string t) = l.length - k from hts)
    have hts1 : t.size ≤ 65536 := by omega
    have Hts := hide hts
    clear hts
    go_wp2_with fail
    refine (behindGap_any t _ (by omega) (HTab.out.up hup)).mono ?_
    rw [hbt.out]
    rintro e w2 ⟨a, ha, rfl, HG, HB, hu2⟩
    have HG := hide HG
    have HB := hide HB
    rw [List.length_drop] at ha
    rw [List.drop_drop] at HB ⊢
    obtain ⟨u, Hu⟩ : ∃ u, Hid (u = bs (l.drop (k + a))) := ⟨_, rfl⟩
    rw [← Hu.out]
    have hbu : Hid (by_ u = l.drop (k + a)) := by show _ = _; rw [Hu.out]; exact by_bs _ (fun x hx => Hlt.out x (List.mem_of_mem_drop hx))
    have hus : u.size = l.length - (k + a) := by rw [← by_len, hbu.out, List.length_drop]
    have hus1 : u.size ≤ 65536 := by omega
    have hsub : (t.size : Int) - (u.size : Int) = (a : Int) := by rw [Hts.out, hus]; omega
    have hat : a ≤ t.size := by rw [Hts.out]; omega
    have cut : ∀ W : World, (Instr.slice 9 (.string t) none (some (.int .i64 (a : Int))) none).run Tryd.prog W = .ok (.string (t.extract 0 a)) W := fun W => slice_pre t a hat W
    obtain ⟨g, Hg⟩ : ∃ g, Hid (g = t.extract 0 a) := ⟨_, rfl⟩
    rw [← Hg.out] at cut
    obtain ⟨q, Hq⟩ : ∃ q, Hid (q = nls (by_ g)) := ⟨_, rfl⟩
    have hq : Hid (q = nls ((l.drop k).take a)) := by show _ = _; rw [Hq.out, Hg.out, by_extract, hbt.out]; rfl
    have hqa : q ≤ a := by
      rw [hq.out]
      unfold nls
      exact Nat.le_trans List.count_le_length (by rw [List.length_take]; omega)
    have HX2 : Hid (x = preL ts (toks (l.drop (k + a)) (n + q))) := by
      show x = _
      rw [HX.out, HG.out n, List.drop_drop, hq.out]
    have Hus := hide hus
    clear hus
    go_wp2_with fail
    refine (count_any g _).mono ?_
    rw [← Hq.out]
    rintro e w' ⟨rfl, rfl⟩
    by_cases he : k + a = l.length
    · have hu0 : u.size = 0 := by rw [Hus.out]; omega
      obtain ⟨e1, e2⟩ := toList_nil u hu0
      have HE : Hid (x = .inr ts) := by show x = _; rw [HX2.out, List.drop_eq_nil_of_le (by omega), toks_nil]; simp [preL]
      clear he hu0
      go_wp2
      go_ret3
      exact retToks_ok HE.out rfl (hown.up hu2) (hup.trans hu2)
    · have hu0 : 0 < u.size := by rw [Hus.out]; omega
      obtain ⟨e1, e2⟩ := toList_ne u hu0
      have HB2 : Hid (Begins (l.drop (k + a))) := by
        rcases HB.out with h | h
        · exfalso
          have := congrArg List.length h
          rw [List.length_drop, List.length_nil] at this
          omega
        · exact h
      obtain ⟨y, Hy⟩ : ∃ y, Hid (y = tok (l.drop (k + a))) := ⟨_, rfl⟩
      have hysz : y.2 ≤ l.length - (k + a) := by rw [Hy.out]; have := tok_size (l.drop (k + a)); rw [List.length_drop] at this; exact this
      obtain ⟨⟨kd, tx, nn, st⟩, sz⟩ := y
      have hsz : sz ≤ l.length - (k + a) := hysz
      clear hysz
      go_wp2_with fail
      refine (readToken_any u _ (HTab.out.up (hup.trans hu2)) (by omega)).mono ?_
      rw [hbu.out, ← Hy.out]
      rintro e w3 ⟨rfl, hu3⟩
      unfold tkv
      have hup3 := (hup.trans hu2).trans hu3
      have hown3 := hown.up (hu2.trans hu3)
      have hz3 := hup3.size
      by_cases h0 : sz = 0
      · have HE : Hid (x = .inl (n + q)) := by
          show x = _
          rw [HX2.out, toks_bad _ _ HB2.out (by rw [← Hy.out]; exact h0)]
          rfl
        have e0 : ((sz : Int) == 0) = true := by rw [h0]; rfl
        clear h0
        go_wp2
        go_ret3
        exact retToks_err HE.out (by simp) (hup3.alloc _)
      · have HE : Hid (x = preL (ts ++ [(⟨kd, tx, nn, st⟩, n + q)]) (toks (l.drop (k + a + sz)) (n + q))) := by
          show x = _
          rw [HX2.out, toks_tok _ _ HB2.out (by rw [← Hy.out]; exact h0), ← Hy.out, preL_preL, List.drop_drop]
        have e0 : ((sz : Int) == 0) = false := by rw [beq_eq_false_iff_ne]; omega
        have hszu : sz ≤ u.size := by rw [Hus.out]; omega
        have cut2 := slice_from u sz hszu
        rw [hbu.out, List.drop_drop] at cut2
        have hsz1 : 1 ≤ sz := by omega
        clear h0
        go_wp2_with (at_builtin; refine wp_appT rfl _ _ rfl w.heap.size _ _ _ rfl ((hown3.allo _).allo _) ⟨w3.heap.size + 1, 0, none⟩ 1 (⟨kd, tx, nn, st⟩, n + q) rfl (cells_new5b w3 _ _ _ _ (by simp [tkcs])) (by omega) (by simp; omega) ?_; intro v1 w4 hown4 hgrow4)
        go_roundw
        case rel => exact ⟨k + a + sz, m + 1, n + q, _, by omega, by rfl, hown4, by go_num, HE.out, ((hown3.allo _).allo _).grownB ((hup3.alloc _).alloc _) hgrow4 (by simp; omega), by omega, by omega⟩
        case measure => rw [strLen_bs, Hlen.out, List.length_drop]; omega
end Go.Proofs.YtnhncakkbfjdjaaDoor
