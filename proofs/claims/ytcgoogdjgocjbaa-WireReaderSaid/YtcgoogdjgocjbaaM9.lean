/- For every string and every list of bytes, a reader of the string returns what the reference returns: integers, strings and lists in turn, as the bytes say, and the same first error (asked up to 1000 bytes and 30 operations, as the law does). No condition. -/
import Derived.Test.YtcgoogdjgocjbaaL
import Derived.Test.YtcgoogdjgocjbaaK
import Derived.Test.YtcgoogdjgocjbaaS
import Derived.Test.YtcgoogdjgocjbaaN
import Derived.Deep.RegionHeld3
import Derived.Deep.RegionWith
namespace Go.Proofs.Ytcgoogdjgocjbaa
open Go.RowKit

open Go.ChangeShapes Go.WideShapes Go.ChangeAt Go.Joins Go.Deep
theorem u8_wf {n : Int} (h : (Lit.int .u8 n).wf = true) : 0 ≤ n ∧ n ≤ 255 := by
  have h1 : IntKind.u8.min = 0 := rfl
  have h2 : IntKind.u8.max = 255 := rfl
  simp [Lit.wf, h1, h2] at h
  omega
def us (l : List Int) : List Value := l.map (Value.int .u8)
theorem us_get {l : List Int} {k : Nat} (h : k < l.length) : (us l)[k]? = some (.int .u8 (l.getD k 0)) := by simp [us, List.getD, h]
theorem us_len (l : List Int) : (us l).length = l.length := by simp [us]
/-- A list of bytes that came in. -/
def BytesIn (w : World) (v : Value) (l : List Int) : Prop := ∃ A n c, v = .slice A n c ∧ Vals w A (us l) ∧ (∀ z ∈ l, 0 ≤ z ∧ z ≤ 255) ∧ n = l.length ∧ n ≤ c ∧ n ≤ 9223372036854775807 ∧ (A = none → n = 0 ∧ c = 0)
theorem open_bytesW {H : Type} {enc : TypeId × Value → H} {w : World} {held : Bool} {base : Nat} {v : Value} {d : DataW H} {p : List MemPlace} (hv : Value.okWide Try.prog w .any base 48 v) (h : DataW.Trod enc Try.prog w 0 (fun _ => true) held 48 v d p) : ∃ l, BytesIn w v l := by
  obtain ⟨a0, n0, c0, rfl⟩ := okWide_slice Try.underlying48 hv
  obtain ⟨f, h⟩ := h
  rcases open_ints Try.underlying48 Try.underlying5 (by kernel_rfl) h with ⟨hcs, _⟩ | ⟨a, len, cap, zs, hcs, _, hl, hm, hz, _, hcell, hwz⟩
  · simp [Value.cells] at hcs
    obtain ⟨rfl, rfl, rfl⟩ := hcs
    exact ⟨[], none, 0, 0, rfl, Or.inl rfl, (fun _ h => by cases h), rfl, Nat.le_refl _, by omega, fun _ => ⟨rfl, rfl⟩⟩
  · simp [Value.cells] at hcs
    obtain ⟨rfl, rfl, rfl⟩ := hcs
    unfold maxLen at hm
    rw [if_pos rfl] at hz
    refine ⟨zs.take n0, some a, n0, c0, rfl, ?_, ?_, by rw [List.length_take]; omega, hl, by omega, fun h => by cases h⟩
    · by_cases h0 : n0 = 0
      · left; subst h0; rfl
      · refine .inr ⟨a, rfl, ?_, ?_⟩
        · have h1 := hcell 0 (by omega)
          have h2 := World.block_lt_of_cell? w _ h1
          rwa [addBlock] at h2
        · intro j x hx
          have hj : j < n0 := by
            have h1 := (List.getElem?_eq_some_iff.1 hx).1
            rw [us_len, List.length_take] at h1
            omega
          rw [hcell j (by omega), ← hx, us_get (by rw [List.length_take]; omega)]
          simp [List.getD, hj]
    · intro z hz1
      exact u8_wf (hwz z (List.mem_of_mem_take hz1))
theorem Rdr.far {w : World} {g b : Nat} {s : ByteArray} {e : Nat} (h : Rdr w g s e) (hne : g ≠ b) (j : Nat) (u : Value) : Rdr (w.setCell ⟨b, j, none⟩ u) g s e := h.other (grown_set w ⟨b, j, none⟩ u) hne
theorem Vals.other {w w' : World} {g : Nat} {A : Option Addr} {l : List Value} (h : Vals w A l) (hg : w.grownBy w' (some g)) (hn : NewB (g + 1) A) : Vals w' A l := by
  rcases h with rfl | ⟨ad, rfl, hb, hc⟩
  · exact Or.inl rfl
  · have hne := hn ad rfl
    have hbk := hg.block ad.block hb (fun e => by injection e; omega)
    exact Or.inr ⟨ad, rfl, Nat.lt_of_lt_of_le hb hg.size, fun j x hx => (World.cell?_of_block (a := ad.add j) (by rw [addBlock]; exact hbk)).trans (hc j x hx)⟩
theorem Rdr.drew {w : World} {g : Nat} {s : ByteArray} {e : Nat} (h : Rdr w g s e) : Rdr w.drew g s e := h.up ((Up.refl w).drew)
set_option maxRecDepth 1000000 in
set_option maxHeartbeats 8000000 in
theorem readerW (s : ByteArray) (v : Value) (w : World) (hs : s.size ≤ maxLen) (hv : ∃ l, BytesIn w v l) : Calls Try.prog 10 #[.string s, v] w fun e w' => e = .returned (.bool true) ∧ Up w w' := by
  obtain ⟨l, A, n, c, rfl, hA, hI, hnl, hnc, hn63, _⟩ := hv
  unfold maxLen at hs
  by_cases hlim : s.size ≤ 1000 ∧ n ≤ 30
  · obtain ⟨hl1, hl2⟩ := hlim
    have Hn := hide hnl
    have HI := hide hI
    clear hnl hI
    go_enter Try.func10, Try.ntmps10
    go_wp2_with fail
    refine (awake_any _).mono ?_
    rintro e w1 ⟨rfl, hu1⟩
    go_wp2_with fail
    refine (newr_any _ _).mono ?_
    rintro e w2 ⟨rfl, hw2⟩
    obtain ⟨g, hg⟩ : ∃ g, g = w1.heap.size := ⟨_, rfl⟩
    have hr0 : Rdr w2 g s 0 := by rw [hw2, hg]; exact Rdr.new w1 s _
    have hu2 : Up w1 w2 := by rw [hw2]; exact (Up.refl w1).alloc _
    have hz2 : w2.heap.size = g + 1 := by rw [hw2, hg]; simp
    have hgw : w.heap.size ≤ g := by rw [hg]; exact hu1.size
    rw [← hg]
    have Hg := hide hg
    clear hw2 hg
    go_wp2_with fail
    go_loopw [37] (fun i wr => ∃ (k e' : Nat) (s' : ByteArray), k ≤ n ∧ i = .int .i64 k ∧ Rdr wr g s' e' ∧ Rdr wr (g + 1) s' e' ∧ s'.size ≤ 1000 ∧ Up w wr) (fun i _ => (n - (intOf i).toNat))
    case atStart => exact ⟨0, 0, s, by omega, rfl, hr0.up ((Up.refl w2).alloc _), (by have := Rdr.new w2 s 52; rwa [hz2] at this), hl1, (hu1.trans hu2).alloc _⟩
    case round =>
      clear hr0 hl1 hs
      obtain ⟨k, e', s', hk, rfl, hr, hb, hs', hup⟩ := hrel
      have hs100 : s'.size ≤ 100000 := by omega
      by_cases hlt : k < n
      · have hk1 : k < l.length := by have := Hn.out; omega
        have hv1 := us_get hk1
        have hz := HI.out (l.getD k 0) (by rw [List.getD, List.getElem?_eq_getElem hk1]; exact List.getElem_mem hk1)
        obtain ⟨m, hm⟩ : ∃ m : Nat, l.getD k 0 = (m : Int) := ⟨(l.getD k 0).toNat, by omega⟩
        rw [hm] at hv1 hz
        obtain ⟨ad, hAd, hbk, hcell⟩ := (hA.up hup).at_ hv1
        subst hAd
        clear hv1 hm
        have hm255 : m ≤ 255 := by omega
        have hm4 : m % 4 = 0 ∨ m % 4 = 1 ∨ m % 4 = 2 ∨ m % 4 = 3 := by omega
        obtain ⟨q0, q1, qf0, qf1⟩ := id hb
        rcases hm4 with h4 | h4 | h4 | h4
        · have h40 : ((m : Int) % 4 == 0) = true := by rw [beq_iff_eq]; omega
          clear h4
          have hR := fun w => rrInt_any s' e' w hs100
          have hW := fun w (hr : Rdr w g s' e') => rInt_any g s' e' w hs100 hr
          have hsz := nx_size gi s' e'
          generalize nv 0 gi s' e' = x at hR hW
          generalize (nx gi s' e').1 = s2 at hR hW hsz
          generalize (nx gi s' e').2 = e2 at hR hW
          go_wp2_with fail
          refine (hR _).mono ?_
          rintro e w3 ⟨rfl, hu3⟩
          have hr3 := hr.up hu3
          have hb3 := hb.up hu3
          go_wp2_with fail
          obtain ⟨wa, hwa⟩ : ∃ x, x = w3.alloc (.cells #[.string s2, .int .i64 (e2 : Nat)] 52) := ⟨_, rfl⟩
          have ht4 : Rdr wa w3.heap.size s2 e2 := by
            rw [hwa]
            exact ⟨by simp, by simp, by simp, by simp⟩
          have hua : Up w3 wa := by rw [hwa]; exact (Up.refl w3).alloc _
          rw [← hwa]
          clear hwa
          have hr4 := hr3.up hua
          have hb4 := hb3.up hua
          have hlt3 := hb3.lt
          obtain ⟨D, hD⟩ : ∃ D, D = w3.heap.size := ⟨_, rfl⟩
          rw [← hD] at ht4 hlt3
          rw [← hD]
          clear hD
          have hupa := (hup.trans hu3).trans hua
          clear hr hb q0 q1 qf0 qf1 hr3 hb3 hu3 hua hR
          obtain ⟨t0, t1, tf0, tf1⟩ := id ht4
          obtain ⟨q0, q1, qf0, qf1⟩ := id hb4
          go_region_with
            (first | (go_at_call 36; refine (hW _ (by first | exact hr4.drew | exact hr4)).mono ?_; rintro e w5 ⟨rfl, hr5, hg5⟩; have ht5 := (ht4.drew).other hg5 (by omega); have hb5 := (hb4.drew).other hg5 (by omega); obtain ⟨y0, y1, yf0, yf1⟩ := id ht5; obtain ⟨z0, z1, zf0, zf1⟩ := id hb5))
          all_goals
            have hb6 := (hb5.rest s2).err e2
            have hr6 := (hr5.far (b := g + 1) (by omega) 0 (.string s2)).far (b := g + 1) (by omega) 1 (.int .i64 (e2 : Nat))
            have hup6 := Up.setCell (p := ⟨g + 1, 1, none⟩) (Up.setCell (p := ⟨g + 1, 0, none⟩) (hupa.drew.grown hg5 (fun k hk => by cases hk; exact hgw)) (by show w.heap.size ≤ g + 1; omega) (.string s2)) (by show w.heap.size ≤ g + 1; omega) (.int .i64 (e2 : Nat))
            obtain ⟨w6, hw6⟩ : ∃ x, x = (w5.setCell ⟨g + 1, 0, none⟩ (.string s2)).setCell ⟨g + 1, 1, none⟩ (.int .i64 (e2 : Nat)) := ⟨_, rfl⟩
            rw [← hw6] at hb6 hr6 hup6
            rw [← hw6]
            clear hw6 hb5 hr5 hg5 ht5 y0 y1 yf0 yf1 z0 z1 zf0 zf1 t0 t1 tf0 tf1 q0 q1 qf0 qf1 ht4 hr4 hb4 hupa hW
            go_wp2
            go_roundw
            case rel => exact ⟨k + 1, e2, s2, by omega, by go_num, hr6, hb6, by omega, hup6⟩
            case measure => simp [intOf] <;> omega
        · have h40 : ((m : Int) % 4 == 0) = false := by rw [beq_eq_false_iff_ne]; omega
          have h41 : ((m : Int) % 4 == 1) = true := by rw [beq_iff_eq]; omega
          clear h4
          have hR := fun w => rrStr_any s' e' w hs100
          have hW := fun w (hr : Rdr w g s' e') => rStr_any g s' e' w hs100 hr
          have hsz := nx_size gs s' e'
          generalize nv ⟨#[]⟩ gs s' e' = x at hR hW
          generalize (nx gs s' e').1 = s2 at hR hW hsz
          generalize (nx gs s' e').2 = e2 at hR hW
          go_wp2_with fail
          refine (hR _).mono ?_
          rintro e w3 ⟨rfl, hu3⟩
          have hr3 := hr.up hu3
          have hb3 := hb.up hu3
          go_wp2_with fail
          obtain ⟨wa, hwa⟩ : ∃ x, x = w3.alloc (.cells #[.string s2, .int .i64 (e2 : Nat)] 52) := ⟨_, rfl⟩
          have ht4 : Rdr wa w3.heap.size s2 e2 := by
            rw [hwa]
            exact ⟨by simp, by simp, by simp, by simp⟩
          have hua : Up w3 wa := by rw [hwa]; exact (Up.refl w3).alloc _
          rw [← hwa]
          clear hwa
          have hr4 := hr3.up hua
          have hb4 := hb3.up hua
          have hlt3 := hb3.lt
          obtain ⟨D, hD⟩ : ∃ D, D = w3.heap.size := ⟨_, rfl⟩
          rw [← hD] at ht4 hlt3
          rw [← hD]
          clear hD
          have hupa := (hup.trans hu3).trans hua
          clear hr hb q0 q1 qf0 qf1 hr3 hb3 hu3 hua hR
          obtain ⟨t0, t1, tf0, tf1⟩ := id ht4
          obtain ⟨q0, q1, qf0, qf1⟩ := id hb4
          go_region_with
            (first | (go_at_call 38; refine (hW _ (by first | exact hr4.drew | exact hr4)).mono ?_; rintro e w5 ⟨rfl, hr5, hg5⟩; have ht5 := (ht4.drew).other hg5 (by omega); have hb5 := (hb4.drew).other hg5 (by omega); obtain ⟨y0, y1, yf0, yf1⟩ := id ht5; obtain ⟨z0, z1, zf0, zf1⟩ := id hb5))
          all_goals
            have hb6 := (hb5.rest s2).err e2
            have hr6 := (hr5.far (b := g + 1) (by omega) 0 (.string s2)).far (b := g + 1) (by omega) 1 (.int .i64 (e2 : Nat))
            have hup6 := Up.setCell (p := ⟨g + 1, 1, none⟩) (Up.setCell (p := ⟨g + 1, 0, none⟩) (hupa.drew.grown hg5 (fun k hk => by cases hk; exact hgw)) (by show w.heap.size ≤ g + 1; omega) (.string s2)) (by show w.heap.size ≤ g + 1; omega) (.int .i64 (e2 : Nat))
            obtain ⟨w6, hw6⟩ : ∃ x, x = (w5.setCell ⟨g + 1, 0, none⟩ (.string s2)).setCell ⟨g + 1, 1, none⟩ (.int .i64 (e2 : Nat)) := ⟨_, rfl⟩
            rw [← hw6] at hb6 hr6 hup6
            rw [← hw6]
            clear hw6 hb5 hr5 hg5 ht5 y0 y1 yf0 yf1 z0 z1 zf0 zf1 t0 t1 tf0 tf1 q0 q1 qf0 qf1 ht4 hr4 hb4 hupa hW
            go_wp2
            go_roundw
            case rel => exact ⟨k + 1, e2, s2, by omega, by go_num, hr6, hb6, by omega, hup6⟩
            case measure => simp [intOf] <;> omega
        · have h40 : ((m : Int) % 4 == 0) = false := by rw [beq_eq_false_iff_ne]; omega
          have h41 : ((m : Int) % 4 == 1) = false := by rw [beq_eq_false_iff_ne]; omega
          have h42 : ((m : Int) % 4 == 2) = true := by rw [beq_iff_eq]; omega
          clear h4
          have hR := fun w => rrList_any s' e' w hs100
          have hW := fun w (hr : Rdr w g s' e') => rList_any g s' e' w hs100 hr
          have hsz := nx_size gls s' e'
          generalize nv [] gls s' e' = x at hR hW
          generalize (nx gls s' e').1 = s2 at hR hW hsz
          generalize (nx gls s' e').2 = e2 at hR hW
          go_wp2_with fail
          refine (hR _).mono ?_
          rintro e w3 ⟨A3, n3, c3, rfl, hl3, hn3, hv3, hnb3, hu3⟩
          have hr3 := hr.up hu3
          have hb3 := hb.up hu3
          go_wp2_with fail
          obtain ⟨wa, hwa⟩ : ∃ x, x = w3.alloc (.cells #[.string s2, .int .i64 (e2 : Nat)] 52) := ⟨_, rfl⟩
          have ht4 : Rdr wa w3.heap.size s2 e2 := by
            rw [hwa]
            exact ⟨by simp, by simp, by simp, by simp⟩
          have hua : Up w3 wa := by rw [hwa]; exact (Up.refl w3).alloc _
          rw [← hwa]
          clear hwa
          have hv4 := hv3.up hua
          have hnb4 : NewB (g + 1) A3 := hnb3.mono (by have := hr.lt; omega)
          have hr4 := hr3.up hua
          have hb4 := hb3.up hua
          have hlt3 := hb3.lt
          obtain ⟨D, hD⟩ : ∃ D, D = w3.heap.size := ⟨_, rfl⟩
          rw [← hD] at ht4 hlt3
          rw [← hD]
          clear hD
          have hupa := (hup.trans hu3).trans hua
          clear hv3 hnb3 hr hb q0 q1 qf0 qf1 hr3 hb3 hu3 hua hR
          obtain ⟨t0, t1, tf0, tf1⟩ := id ht4
          obtain ⟨q0, q1, qf0, qf1⟩ := id hb4
          go_region_with
            (first | (go_at_call 40; refine (hW _ (by first | exact hr4.drew | exact hr4)).mono ?_; rintro e w5 ⟨A5, n5, c5, rfl, hl5, hn5, hv5, hr5, hg5⟩; have hv6 := (hv4.up ((Up.refl wa).drew)).other hg5 hnb4; have ht5 := (ht4.drew).other hg5 (by omega); have hb5 := (hb4.drew).other hg5 (by omega); obtain ⟨y0, y1, yf0, yf1⟩ := id ht5; obtain ⟨z0, z1, zf0, zf1⟩ := id hb5) | (go_at_call 22; refine (same_any A5 A3 n5 n3 c5 c3 x x w5 hv5 hv6 hl5.symm hl3.symm hn5 hn3).mono ?_; rintro e w7 ⟨r, rfl, hrr, hu7⟩; obtain rfl : r = true := hrr.2 rfl; have hr7 := hr5.up hu7; have ht7 := ht5.up hu7; have hb7 := hb5.up hu7; obtain ⟨y20, y21, y2f0, y2f1⟩ := id ht7; obtain ⟨z20, z21, z2f0, z2f1⟩ := id hb7))
          all_goals
            have hb6 := (hb7.rest s2).err e2
            have hr6 := (hr7.far (b := g + 1) (by omega) 0 (.string s2)).far (b := g + 1) (by omega) 1 (.int .i64 (e2 : Nat))
            have hup6 := Up.setCell (p := ⟨g + 1, 1, none⟩) (Up.setCell (p := ⟨g + 1, 0, none⟩) ((hupa.drew.grown hg5 (fun k hk => by cases hk; exact hgw)).trans hu7) (by show w.heap.size ≤ g + 1; omega) (.string s2)) (by show w.heap.size ≤ g + 1; omega) (.int .i64 (e2 : Nat))
            obtain ⟨w6, hw6⟩ : ∃ x, x = (w7.setCell ⟨g + 1, 0, none⟩ (.string s2)).setCell ⟨g + 1, 1, none⟩ (.int .i64 (e2 : Nat)) := ⟨_, rfl⟩
            rw [← hw6] at hb6 hr6 hup6
            rw [← hw6]
            clear y20 y21 y2f0 y2f1 z20 z21 z2f0 z2f1 hb7 hr7 ht7 hv4 hv5 hv6 hw6 hb5 hr5 hg5 ht5 y0 y1 yf0 yf1 z0 z1 zf0 zf1 t0 t1 tf0 tf1 q0 q1 qf0 qf1 ht4 hr4 hb4 hupa hW
            go_wp2
            go_roundw
            case rel => exact ⟨k + 1, e2, s2, by omega, by go_num, hr6, hb6, by omega, hup6⟩
            case measure => simp [intOf] <;> omega
        · have h40 : ((m : Int) % 4 == 0) = false := by rw [beq_eq_false_iff_ne]; omega
          have h41 : ((m : Int) % 4 == 1) = false := by rw [beq_eq_false_iff_ne]; omega
          have h42 : ((m : Int) % 4 == 2) = false := by rw [beq_eq_false_iff_ne]; omega
          clear h4
          go_wp2_with fail
          have hupA : Up wr wr.drew := (Up.refl wr).drew
          go_region_held3 (fun w' => w'.cell? ⟨g + 1, 0, none⟩ = some (.string s') ∧ w'.cell? ⟨g + 1, 1, none⟩ = some (.int .i64 (e' : Nat))) (exact ⟨hupA.keep q0, hupA.keep q1⟩)
            (first | (go_at_call 41; refine (rEnd_any g s' e' _ (hr.up hupA)).mono ?_; rintro e wx ⟨rfl, rfl⟩) | (go_at_call 42; refine (rrEnd_any s' e' _).mono ?_; rintro e wx ⟨rfl, hux⟩; replace hupA := hupA.trans hux))
          go_wp2
          go_roundw
          case rel => exact ⟨k + 1, e', s', by omega, by go_num, hr.up hupA, hb.up hupA, hs', hup.trans hupA⟩
          case measure => simp [intOf] <;> omega
      · obtain rfl : k = n := by omega
        obtain ⟨q0, q1, qf0, qf1⟩ := id hb
        go_wp2_with fail
        have hupA : Up wr wr.drew := (Up.refl wr).drew
        go_region_held3 (fun w' => w'.cell? ⟨g + 1, 0, none⟩ = some (.string s') ∧ w'.cell? ⟨g + 1, 1, none⟩ = some (.int .i64 (e' : Nat))) (exact ⟨hupA.keep q0, hupA.keep q1⟩)
          (first | (go_at_call 41; refine (rEnd_any g s' e' _ (hr.up hupA)).mono ?_; rintro e wx ⟨rfl, rfl⟩) | (go_at_call 42; refine (rrEnd_any s' e' _).mono ?_; rintro e wx ⟨rfl, hux⟩; replace hupA := hupA.trans hux))
        go_wp2
        go_ret
        exact ⟨rfl, hup.trans hupA⟩
  · have hor : 1000 < s.size ∨ (¬ 1000 < s.size ∧ 30 < n) := by omega
    clear hlim hnl
    rcases hor with h1 | ⟨h1, h2⟩
    · go_enter Try.func10, Try.ntmps10
      go_wp2_with fail
      refine (awake_any _).mono ?_
      rintro e w1 ⟨rfl, hu1⟩
      go_wp2_with fail
      refine (awake_any _).mono ?_
      rintro e w2 ⟨rfl, hu2⟩
      go_wp2
      go_ret
      exact ⟨rfl, hu1.trans hu2⟩
    · go_enter Try.func10, Try.ntmps10
      go_wp2_with fail
      refine (awake_any _).mono ?_
      rintro e w1 ⟨rfl, hu1⟩
      go_wp2_with fail
      refine (awake_any _).mono ?_
      rintro e w2 ⟨rfl, hu2⟩
      go_wp2
      go_ret
      exact ⟨rfl, hu1.trans hu2⟩
set_option maxRecDepth 100000 in
theorem lifted_wireReader (os : Os) (started : os.Started) (H : Type) (enc : TypeId × Value → H) :
    ReturnsInHanded {} Try.checked os 10 .any (Rows.wireReaderSpec.pre6 enc Try.prog Try.f10 Rows.wireReaderRow.domain false) (Rows.wireReaderSpec.post enc Try.prog Try.f10 false true false false) := by
  refine returnsInHanded_of_change (C := Try.checked) ownK started (by kernel_rfl) Try.func10
    (ChangeSpec.witness6 (enc := enc) (C := Try.checked) false ⟨#[], #[.string ⟨#[]⟩, .slice none 0 0], []⟩ 8 (by kernel_rfl) (by kernel_rfl) (by kernel_rfl) (by kernel_rfl)) ?_
  intro W base args ds gs before hval0 hW hcnd _
  have hval : ∀ (j : Nat) t v, Try.f10.params[j]? = some t → args[j]? = some v → Value.okWide Try.prog W .any base t v := hval0
  have hW' := hW
  obtain ⟨p, q, hA0, hV, rfl, hfz, hnd⟩ := hW
  have hA : DataW.TrodAll enc Try.prog W 0 (fun _ => true) true Try.f10.params.toList args.toList ds p := hA0
  rw [Try.params10] at hA hval
  obtain ⟨v0, vs0, d0, ds0, p0, q0, hargs, rfl, rfl, h0, r0⟩ := trodAll_cons hA
  obtain ⟨v1, vs1, d1, ds1, p1, q1, rfl, rfl, rfl, h1, r1⟩ := trodAll_cons r0
  obtain ⟨rfl, rfl, rfl⟩ := trodAll_nil r1
  obtain rfl : args = #[v0, v1] := by cases args; simp_all
  obtain ⟨rfl, rfl⟩ := trodVars_none hV
  obtain ⟨a0, rfl, rfl, rfl, w0⟩ := Go.ChangeMaps.open_string Try.underlying9 (hval 0 9 v0 rfl rfl) h0
  have k1 := h1
  have lt1 : ∀ x ∈ p1, x.block < W.heap.size := by obtain ⟨m, hm⟩ := k1; exact DataW.trod_lt m _ _ _ hm
  have w1 := open_bytesW (hval 1 48 v1 rfl rfl) h1
  clear hA0 hval0
  refine (readerW a0 v1 W w0 w1).mono fun e W' ⟨he, bel0⟩ => ?_
  have bel : Below W.heap.size W W' := bel0
  subst he
  exact ⟨_, rfl, _, _, _, [], _, [], hW', trodAll_mk1 (shut_bool Try.underlying4 _), (trodAll_cons_mk (Go.ChangeMaps.shut_string Try.underlying9 w0) (trodAll_cons_mk (Below.trod laidOut (by kernel_rfl) (of_decide_eq_true (by kernel_rfl)) k1 bel lt1) trodAll_mk0)), rfl, bel.frame _, fun h => by cases h⟩

theorem over_wireReader : Rows.wireReaderRow.holds Try.pinned (OpenSpec.ofChange Rows.wireReaderSpec) :=
  OpenClaim.holds_of_wide 10 Try.f10 rfl rfl rfl rfl rfl rfl rfl ⟨rfl, rfl, rfl, rfl, rfl⟩ rfl rfl rfl rfl rfl (by kernel_rfl) Try.func10 (by kernel_rfl)
    (of_decide_eq_true (by kernel_rfl)) (by unfold Func.isWrapper; first | (rw [if_pos (by decide +kernel)]; kernel_rfl) | (rw [if_neg (by decide +kernel)]; exact ⟨rfl, rfl⟩))
    (fun os started H enc _ => lifted_wireReader os started H enc)

theorem wireReader_holds : Rows.WireReaderSaid := over_wireReader
end Go.Proofs.Ytcgoogdjgocjbaa
