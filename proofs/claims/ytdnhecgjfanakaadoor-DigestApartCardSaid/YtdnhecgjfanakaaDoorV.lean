/- Walk: two hashes that are written in turn. -/
import Derived.Test.YtdnhecgjfanakaaDoorT
import Derived.ProofKit
import Derived.OpenShut
import Derived.ChangeOld
import Derived.Below
namespace Go.Proofs.YtdnhecgjfanakaaDoor
open Go.RowKit

open Go.ChangeShapes Go.WideShapes Go.ChangeAt
/-- A list of pairs of strings that came in. -/
def PairsIn (w : World) (v : Value) : Prop := ∃ A n c, v = .slice A n c ∧ n ≤ c ∧ n ≤ 9223372036854775807 ∧ (n = 0 ∨ ∃ b o, A = some ⟨b, o, none⟩ ∧ ∀ i, i < n → ∃ s t : ByteArray, w.cell? ⟨b, o + i * 2, none⟩ = some (.string s) ∧ w.cell? ⟨b, o + i * 2 + 1, none⟩ = some (.string t) ∧ s.size ≤ maxLen ∧ t.size ≤ maxLen)
theorem open_pairsW {H : Type} {enc : TypeId × Value → H} {w : World} {held : Bool} {base : Nat} {v : Value} {d : DataW H} {p : List MemPlace} (hv : Value.okWide Tryd.prog w .any base 22 v) (h : DataW.Trod enc Tryd.prog w 0 (fun _ => true) held 22 v d p) : PairsIn w v := by
  obtain ⟨a0, n0, c0, rfl⟩ := okWide_slice Tryd.underlying22 hv
  obtain ⟨f, h⟩ := h
  have hce : Tryd.prog.cellsOf 26 = 2 := by kernel_rfl
  have hcs1 : Tryd.prog.cellsOf 9 = 1 := by kernel_rfl
  rcases DataW.trod_slice Tryd.underlying22 h with ⟨hcs, _⟩ | ⟨a, len, cap, elems, rest, m, _, hcs, _, _, hl, hm, hlen, hel, _, _⟩
  · simp [Value.cells] at hcs
    obtain ⟨rfl, rfl, rfl⟩ := hcs
    exact ⟨none, 0, 0, rfl, Nat.le_refl _, by omega, .inl rfl⟩
  · simp [Value.cells] at hcs
    obtain ⟨rfl, rfl, rfl⟩ := hcs
    unfold maxLen at hm
    suffices hall : ∀ i, i < n0 → ∃ s t : ByteArray, w.cell? (a.add (i * 2)) = some (.string s) ∧ w.cell? ((a.add (i * 2)).add 1) = some (.string t) ∧ s.size ≤ maxLen ∧ t.size ≤ maxLen by
      refine ⟨some a, n0, c0, rfl, hl, by omega, ?_⟩
      by_cases h0 : n0 = 0
      · exact .inl h0
      · obtain ⟨s, _, hs, _⟩ := hall 0 (by omega)
        have hsp := World.cell?_spot hs
        obtain ⟨b, o, sp⟩ := a
        have hsp2 : sp = none := by simpa [Addr.add] using hsp
        subst hsp2
        refine .inr ⟨b, o, rfl, fun i hi => ?_⟩
        obtain ⟨s, t, h1, h2, h3, h4⟩ := hall i hi
        rw [Addr.add_mid] at h1 h2
        rw [Addr.add_mid] at h2
        exact ⟨s, t, h1, h2, h3, h4⟩
    intro i hi
    have h1 := hel i hi
    rw [hce] at h1
    have hy : elems[i]? = some (elems[i]'(by omega)) := List.getElem?_eq_getElem (by omega)
    rw [hy, Option.bind_eq_some_iff] at h1
    obtain ⟨cs', hc', hd'⟩ := h1
    obtain ⟨_, hcl, hcells⟩ := World.cells?_some hc'
    obtain ⟨xs, m', rfl, _, _, hxl, hx⟩ := DataW.trod_array Tryd.underlying26 hd'
    have e0 := hx 0 (by decide)
    have e1 := hx 1 (by decide)
    rw [hcs1] at e0 e1
    rw [List.getElem?_eq_getElem (by omega)] at e0 e1
    obtain ⟨s, hs, _, hsw⟩ := DataW.trod_string Tryd.underlying9 e0
    obtain ⟨t, ht, _, htw⟩ := DataW.trod_string Tryd.underlying9 e1
    have c0 := hcells 0 (by decide)
    have c1 := hcells 1 (by decide)
    rw [show (a.add (i * 2)).add 0 = a.add (i * 2) from rfl] at c0
    match cs', hcl, hs, ht, c0, c1 with
    | [x, y], _, hs, ht, c0, c1 =>
      simp at hs ht c0 c1
      subst hs ht
      exact ⟨s, t, c0, c1, hsw, htw⟩
set_option maxRecDepth 1000000 in
set_option maxHeartbeats 8000000 in
theorem apartW (v : Value) (w : World) (hT : Tabs w) (hv : PairsIn w v) : Calls Tryd.prog 3 #[v] w fun e w' => e = .returned (.bool true) ∧ Up w w' := by
  obtain ⟨A, n, c, rfl, hnc, hn63, hin⟩ := hv
  have HT := hide hT
  have HI := hide hin
  clear hT hin
  by_cases h10 : n ≤ 10
  · have t1 : decide ((10 : Int) < n) = false := decide_eq_false (by omega)
    go_enter Tryd.func3, Tryd.ntmps3
    go_wp2_with fail
    refine (awake_any _ HT.out).mono ?_
    rintro e w1 ⟨rfl, hu1⟩
    go_wp2_with fail
    refine (new_any _ (HT.out.up hu1)).mono ?_
    rintro e w2 ⟨rfl, hg2, hu2, hz2⟩
    go_wp2_with fail
    refine (new_any _ ((HT.out.up hu1).up hu2)).mono ?_
    rintro e w3 ⟨rfl, hh3, hu3, hz3⟩
    have hg3 := hg2.up hu3
    have hup3 := (hu1.trans hu2).trans hu3
    have h3 := HT.out.lt
    have hs1 := hu1.size
    have Hz2 := hide hz2
    have Hz3 := hide hz3
    clear hg2 hu2 hu3 hz2 hz3
    go_wp2
    go_loopw [27, 5, 6, 8] (fun cv av bv _ wr => ∃ (k : Nat) (a b : ByteArray), cv = .int .i64 k ∧ k ≤ n ∧ av = .string a ∧ bv = .string b ∧ a.size ≤ 100 * k ∧ b.size ≤ 100 * k ∧ HashAt wr w1.heap.size (by_ a) ∧ HashAt wr w2.heap.size (by_ b) ∧ Up w wr) (fun cv _ _ _ _ => n - (intOf cv).toNat)
    case atStart => exact ⟨0, ⟨#[]⟩, ⟨#[]⟩, rfl, by omega, rfl, rfl, by decide, by decide, hg3, hh3, hup3⟩
    case round =>
      clear hg3 hh3 hup3
      obtain ⟨k, a, b, rfl, hk, rfl, rfl, ha, hb, hg, hh, hup⟩ := hrel
      by_cases hlt : k < n
      · obtain ⟨bl, off, rfl, hcells⟩ : ∃ b o, A = some ⟨b, o, none⟩ ∧ ∀ i, i < n → ∃ s t : ByteArray, w.cell? ⟨b, o + i * 2, none⟩ = some (.string s) ∧ w.cell? ⟨b, o + i * 2 + 1, none⟩ = some (.string t) ∧ s.size ≤ maxLen ∧ t.size ≤ maxLen := by
          rcases HI.out with h | h
          · omega
          · exact h
        obtain ⟨s, t, cs, ct, hs, ht⟩ := hcells k hlt
        have cs' := (hup.cell (World.block_lt_of_cell? w _ cs)).trans cs
        have ct' := (hup.cell (World.block_lt_of_cell? w _ ct)).trans ct
        unfold maxLen at hs ht
        clear cs ct hcells
        by_cases hs100 : s.size ≤ 100
        · have d1 : decide ((100 : Int) < s.size) = false := decide_eq_false (by omega)
          by_cases ht100 : t.size ≤ 100
          · have d2 : decide ((100 : Int) < t.size) = false := decide_eq_false (by omega)
            have hgl := hg.lt
            have hhl := hh.lt
            have Hg := hide hg
            have Hh := hide hh
            have Ha := hide ha
            have Hb := hide hb
            have Hup := hide hup
            clear hg hh ha hb hup
            have hTr := hide (HT.out.up Hup.out)
            have hrs := Hup.out.size
            have la := hide (by_len a)
            have lb := hide (by_len b)
            have ls := hide (by_len s)
            have lt := hide (by_len t)
            have ha1 : a.size ≤ 1000 := by have := Ha.out; omega
            have hb1 : b.size ≤ 1000 := by have := Hb.out; omega
            have add1 : ∀ W : World, (Op.stringOp .add a s).run Tryd.prog W = .ok (.string (a ++ s)) W := fun W => run_string_add_sum W _ _ (by omega)
            have add2 : ∀ W : World, (Op.stringOp .add b t).run Tryd.prog W = .ok (.string (b ++ t)) W := fun W => run_string_add_sum W _ _ (by omega)
            go_wp2_with fail
            refine (write_any w1.heap.size (by_ a) s _ (Hg.out.up ((Up.refl wr).alloc _)) (hTr.out.up ((Up.refl wr).alloc _)) (by omega) (by rw [la.out]; omega)).mono ?_
            rintro e w4 ⟨rfl, hg4, hgr4⟩
            have hbx4 := (Bk.new wr 26 #[.string s, .string t]).grownO hgr4 (by omega)
            have hh4 := (Hh.out.up ((Up.refl wr).alloc (.cells #[.string s, .string t] 26))).grownO hgr4 (by have := Hz2.out; omega)
            have hT4 := hide ((hTr.out.up ((Up.refl wr).alloc (.cells #[.string s, .string t] 26))).grownS hgr4 (by omega))
            have hup4 := hide ((Hup.out.alloc (.cells #[.string s, .string t] 26)).grownS hgr4 (by omega))
            have b1 := hbx4.cell (i := 1) rfl
            clear cs' ct' hgr4
            go_wp2_with fail
            refine (write_any w2.heap.size (by_ b) t w4 hh4 hT4.out (by have := Hz2.out; omega) (by rw [lb.out]; omega)).mono ?_
            rintro e w5 ⟨rfl, hh5, hgr5⟩
            have hbx5 := hbx4.grownO hgr5 (by have := Hz2.out; omega)
            have hg5 := hg4.grownO hgr5 (by have := Hz2.out; omega)
            have hup5 := hide (hup4.out.grownS hgr5 (by have := Hz2.out; omega))
            clear b1
            have b0 := hbx5.cell (i := 0) rfl
            have b1 := hbx5.cell (i := 1) rfl
            have Hg5 := hide hg5
            have Hh5 := hide hh5
            clear hgr5 hh4 hg4 hg5 hh5
            go_wp2
            go_quiet (fail)
            go_wp2
            go_roundw
            case rel => exact ⟨k + 1, a ++ s, b ++ t, by go_num, by omega, rfl, rfl, by rw [ByteArray.size_append]; have := Ha.out; omega, by rw [ByteArray.size_append]; have := Hb.out; omega, by rw [by_append]; exact Hg5.out.up ((Up.refl _).drewN _), by rw [by_append]; exact Hh5.out.up ((Up.refl _).drewN _), hup5.out.drewN _⟩
            case measure => simp [intOf]; omega
          · have d2 : decide ((100 : Int) < t.size) = true := decide_eq_true (by omega)
            go_wp2
            go_ret
            exact ⟨rfl, hup.alloc _⟩
        · have d1 : decide ((100 : Int) < s.size) = true := decide_eq_true (by omega)
          go_wp2
          go_ret
          exact ⟨rfl, hup.alloc _⟩
      · have hge : decide ((k : Int) < n) = false := decide_eq_false (by omega)
        have Hg := hide hg
        have Hh := hide hh
        have Hup := hide hup
        have la := hide (by_len a)
        have lb := hide (by_len b)
        have ha1 : a.size ≤ 1000 := by omega
        have hb1 : b.size ≤ 1000 := by omega
        have hT1 := hide (HT.out.up hup)
        clear hg hh hup ha hb
        go_wp2_with fail
        refine (hsum_any w1.heap.size (by_ a) wr Hg.out hT1.out (by rw [la.out]; omega)).mono ?_
        rintro e w4 ⟨rfl, hu4⟩
        have hT4 := hide (hT1.out.up hu4)
        go_wp2_with fail
        refine (hex_any a _ hT4.out (by omega)).mono ?_
        rintro e w5 ⟨rfl, hu5⟩
        have hT5 := hide (hT4.out.up hu5)
        have Hh5 := hide ((Hh.out.up hu4).up hu5)
        go_wp2_with fail
        refine (hsum_any w2.heap.size (by_ b) w5 Hh5.out hT5.out (by rw [lb.out]; omega)).mono ?_
        rintro e w6 ⟨rfl, hu6⟩
        have hT6 := hide (hT5.out.up hu6)
        go_wp2_with fail
        refine (hex_any b _ hT6.out (by omega)).mono ?_
        rintro e w7 ⟨rfl, hu7⟩
        go_wp2
        go_ret
        exact ⟨rfl, (((Hup.out.trans hu4).trans hu5).trans hu6).trans hu7⟩
  · have t1 : decide ((10 : Int) < n) = true := decide_eq_true (by omega)
    go_enter Tryd.func3, Tryd.ntmps3
    go_wp2_with fail
    refine (awake_any _ HT.out).mono ?_
    rintro e w1 ⟨rfl, hu1⟩
    go_wp2_with fail
    refine (awake_any _ (HT.out.up hu1)).mono ?_
    rintro e w2 ⟨rfl, hu2⟩
    go_wp2
    go_ret
    exact ⟨rfl, hu1.trans hu2⟩
end Go.Proofs.YtdnhecgjfanakaaDoor
