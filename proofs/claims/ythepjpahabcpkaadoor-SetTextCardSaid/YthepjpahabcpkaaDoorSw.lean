/- The laws on texts. -/
import Derived.Test.YthepjpahabcpkaaDoorSv
namespace Go.Proofs.YthepjpahabcpkaaDoor
open Go.RowKit Go.Shelf

theorem tx_short {s : Nat} : (txU s).length ≤ 1000 := by
  have h1 := fm_len (mem 16 s) (fun i hi => mem_lt hi)
  have h2 := mem_len 16 s
  unfold txU
  simp
  omega
set_option maxRecDepth 100000 in
set_option maxHeartbeats 4000000 in
theorem textW (s : Nat) (w : World) (hT : PT w) (hs : s < 65536) : Calls Tryd.prog 10 #[.int .u16 (s : Int)] w (RetV w (.bool true)) := by
  have HPT := hide hT
  obtain ⟨F, HF⟩ : ∃ F, Hid (F = bu (txU s)) := ⟨_, rfl⟩
  have hfm := fun w hT => format_any s w hT hs
  have hrf := fun w => rformat_any s w hs
  have hpa := fun w hT => parse_any (txU s) w hT tx_short
  rw [parse_tx hs] at hpa
  rw [← HF.out] at hfm hrf hpa
  clear hT
  by_cases h : s < 4096
  · rw [if_pos h] at hpa
    have d : decide ((s : Int) < 4096) = true := decide_eq_true (by omega)
    go_enter Tryd.func10, Tryd.ntmps10
    go_wp2_with fail
    refine (awake_any w HPT.out.tabs).mono ?_
    rintro e1 w1 ⟨rfl, hu1⟩
    go_wp2_with fail
    refine (hfm w1 (HPT.out.tabs.up hu1)).mono ?_
    rintro e2 w2 ⟨rfl, hu2⟩
    go_wp2_with fail
    refine (hpa w2 (HPT.out.up (hu1.trans hu2))).mono ?_
    rintro e3 w3 ⟨rfl, hu3⟩
    go_wp2_with fail
    refine (hrf w3).mono ?_
    rintro e4 w4 ⟨rfl, hu4⟩
    go_wp2
    go_ret
    exact ⟨rfl, ((hu1.trans hu2).trans hu3).trans hu4⟩
  · rw [if_neg h] at hpa
    have d : decide ((s : Int) < 4096) = false := decide_eq_false (by omega)
    go_enter Tryd.func10, Tryd.ntmps10
    go_wp2_with fail
    refine (awake_any w HPT.out.tabs).mono ?_
    rintro e1 w1 ⟨rfl, hu1⟩
    go_wp2_with fail
    refine (hfm w1 (HPT.out.tabs.up hu1)).mono ?_
    rintro e2 w2 ⟨rfl, hu2⟩
    go_wp2_with fail
    refine (hpa w2 (HPT.out.up (hu1.trans hu2))).mono ?_
    rintro e3 w3 ⟨rfl, hu3⟩
    go_wp2_with fail
    refine (hrf w3).mono ?_
    rintro e4 w4 ⟨rfl, hu4⟩
    go_wp2
    go_ret
    exact ⟨rfl, ((hu1.trans hu2).trans hu3).trans hu4⟩
set_option maxRecDepth 100000 in
set_option maxHeartbeats 4000000 in
theorem parseW (B : ByteArray) (w : World) (hT : PT w) (_hs : B.size ≤ 9223372036854775807) : Calls Tryd.prog 11 #[.string B] w (RetV w (.bool true)) := by
  have HPT := hide hT
  obtain ⟨n, hn⟩ : ∃ n, B.size = n := ⟨_, rfl⟩
  have eB : bu B.data.toList = B := by cases B; simp [bu]
  have hBl : B.data.toList.length = n := by rw [← hn]; simp
  clear hT
  by_cases h : n ≤ 60
  · have d : decide ((60 : Int) < (n : Int)) = false := decide_eq_false (by omega)
    have hpa := fun w hT => parse_any B.data.toList w hT (by omega)
    have hrp := fun w => rparse_any B.data.toList w (by omega)
    rw [eB] at hpa hrp
    obtain ⟨p, hp⟩ : ∃ p, parseU B.data.toList = p := ⟨_, rfl⟩
    rw [hp] at hpa hrp
    obtain ⟨p1, p2⟩ := p
    clear hp eB hBl h
    go_enter Tryd.func11, Tryd.ntmps11
    go_wp2_with fail
    refine (awake_any w HPT.out.tabs).mono ?_
    rintro e1 w1 ⟨rfl, hu1⟩
    go_wp2_with fail
    refine (hpa w1 (HPT.out.up hu1)).mono ?_
    rintro e2 w2 ⟨rfl, hu2⟩
    go_wp2_with fail
    refine (hrp w2).mono ?_
    rintro e3 w3 ⟨rfl, hu3⟩
    go_wp2
    go_ret
    exact ⟨rfl, (hu1.trans hu2).trans hu3⟩
  · have d : decide ((60 : Int) < (n : Int)) = true := decide_eq_true (by omega)
    clear eB hBl h
    go_enter Tryd.func11, Tryd.ntmps11
    go_wp2_with fail
    refine (awake_any w HPT.out.tabs).mono ?_
    rintro e1 w1 ⟨rfl, hu1⟩
    go_wp2_with fail
    refine (awake_any w1 (HPT.out.tabs.up hu1)).mono ?_
    rintro e2 w2 ⟨rfl, hu2⟩
    go_wp2
    go_ret
    exact ⟨rfl, hu1.trans hu2⟩
end Go.Proofs.YthepjpahabcpkaaDoor
