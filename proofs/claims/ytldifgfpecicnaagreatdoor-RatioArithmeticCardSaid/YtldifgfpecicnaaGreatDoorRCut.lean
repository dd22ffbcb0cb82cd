/- strings.Cut at a slash. -/
import Derived.Test.YtldifgfpecicnaaGreatDoorR9
import Derived.Test.YtldifgfpecicnaaGreatDoorShelf
namespace Go.Proofs.YtldifgfpecicnaaGreatDoor
open Go.RowKit

/-- The place of the first slash, or -1. -/
def ix47 (s : ByteArray) : Int := Lib.indexByte s.data.toList 47
theorem ix_lt {s : ByteArray} {k : Nat} (h : ix47 s = k) : k < s.size := by
  have h1 := (Lib.indexByte_some (o := k) h).1
  have h2 := (List.getElem?_eq_some_iff.1 h1).1
  simpa using h2
def PCut (w : World) (a b : ByteArray) (f : Bool) (e : Ending) (w' : World) : Prop := e = .returned (.tuple #[.string a, .string b, .bool f]) ∧ Up w w'
theorem index47 (s : ByteArray) (w : World) (z : Int) (hz : ix47 s = z) : Calls Tryz.prog 135 #[.string s, .string ⟨#[47]⟩] w fun e w' => e = .returned (.int .i64 z) ∧ w = w' := by
  subst hz
  refine (Tryz.stringslite_Index_one s 47 w).mono ?_
  rintro e w' ⟨he, hw⟩
  exact ⟨he, hw.symm⟩
set_option maxRecDepth 1000000 in
set_option maxHeartbeats 2000000 in
theorem cutl_no (s : ByteArray) (w : World) (h : ix47 s = -1) : Calls Tryz.prog 111 #[.string s, .string ⟨#[47]⟩] w (PCut w s ⟨#[]⟩ false) := by
  have hcall := fun W => index47 s W (-1) h
  clear h
  go_enter Tryz.func111, Tryz.ntmps111
  go_wp2_with (go_at_call 135; refine (hcall _).mono ?_; rintro e w' ⟨rfl, rfl⟩)
  go_ret3
  exact ⟨rfl, Up.refl w⟩
set_option maxRecDepth 1000000 in
set_option maxHeartbeats 2000000 in
theorem cutl_yes (s : ByteArray) (k : Nat) (w : World) (h : ix47 s = k) (hs : s.size ≤ 1000000) : Calls Tryz.prog 111 #[.string s, .string ⟨#[47]⟩] w (PCut w (s.extract 0 k) (s.extract (k + 1) s.size) true) := by
  have hcall := fun W => index47 s W k h
  have hk := ix_lt h
  clear h
  have hsz : (⟨#[47]⟩ : ByteArray).size = 1 := rfl
  have h0 : (0 : Int) ≤ (k : Int) := by omega
  have hp : (0 : Int) ≤ (k : Int) + 1 := by omega
  have hw1 : IntKind.i64.wrap ((k : Int) + 1) = ((k + 1 : Nat) : Int) := by rw [IntKind.wrap_i64]; omega
  have hsl1 : ∀ W : World, (Instr.slice 9 (.string s) none (some (.int .i64 (k : Int))) none).run Tryz.prog W = .ok (.string (s.extract 0 k)) W := fun W => by rw [run_slice_string_h W _ _ Tryz.underlying9 .i64 _ (by omega) (by omega)]; simp
  go_enter Tryz.func111, Tryz.ntmps111
  go_wp2_with (go_at_call 135; refine (hcall _).mono ?_; rintro e w' ⟨rfl, rfl⟩)
  go_quiet (fail)
  go_wp2
  go_ret3
  exact ⟨rfl, (Up.refl w).drewN _⟩
set_option maxRecDepth 1000000 in
set_option maxHeartbeats 2000000 in
theorem scut_pass (s a b : ByteArray) (f : Bool) (w : World) (hc : ∀ W, Calls Tryz.prog 111 #[.string s, .string ⟨#[47]⟩] W (PCut W a b f)) : Calls Tryz.prog 78 #[.string s, .string ⟨#[47]⟩] w (PCut w a b f) := by
  go_enter Tryz.func78, Tryz.ntmps78
  go_wp2_with (go_at_call 111; refine (hc _).mono ?_; rintro e w' ⟨rfl, hup⟩)
  go_ret3
  exact ⟨rfl, hup⟩
/-- Is there a slash? What stands ahead of the first one, and behind it (1, if there is none). -/
def hasB (s : ByteArray) : Bool := decide (0 ≤ ix47 s)
def sL (s : ByteArray) : ByteArray := if hasB s then s.extract 0 (ix47 s).toNat else s
def sR (s : ByteArray) : ByteArray := if hasB s then s.extract ((ix47 s).toNat + 1) s.size else ⟨#[49]⟩
theorem scutY (s : ByteArray) (w : World) (hs : s.size ≤ 1000000) (h : hasB s = true) : Calls Tryz.prog 78 #[.string s, .string ⟨#[47]⟩] w (PCut w (sL s) (sR s) true) := by
  unfold sL sR
  rw [h]
  have h0 : 0 ≤ ix47 s := of_decide_eq_true h
  exact scut_pass s _ _ true w fun W => cutl_yes s (ix47 s).toNat W (by omega) hs
theorem scutN (s : ByteArray) (w : World) (h : hasB s = false) : Calls Tryz.prog 78 #[.string s, .string ⟨#[47]⟩] w (PCut w (sL s) ⟨#[]⟩ false) := by
  unfold sL
  rw [h]
  have h0 : ¬ 0 ≤ ix47 s := of_decide_eq_false h
  have h1 := Lib.indexByte_ge s.data.toList 47
  exact scut_pass s _ _ false w fun W => cutl_no s W (by unfold ix47 at *; omega)
theorem sL_size (s : ByteArray) : (sL s).size ≤ s.size := by
  unfold sL
  split
  · rw [ByteArray.size_extract]; omega
  · exact Nat.le_refl _
theorem sR_size (s : ByteArray) : (sR s).size ≤ s.size + 1 := by
  unfold sR
  split
  · rw [ByteArray.size_extract]; omega
  · show 1 ≤ _; omega
/-- What Parse gives of a text. -/
def parsB (s : ByteArray) : Bool := okS (sL s) && (okS (sR s) && (lowB (valS (sL s)) (valS (sR s)) && decide (rtx (valS (sL s)) (valS (sR s)) = s)))
def parsR (s : ByteArray) : Res := if parsB s then ⟨0, valS (sL s), valS (sR s)⟩ else noR 2
section
variable {w : World} {s : ByteArray}
theorem parsY (hs : s.size ≤ 1000) (h : okS s = true) : Calls Tryz.prog 67 #[.string s] w (PIE w (valS s) 0) := by
  refine (parse_any s w hs).mono ?_
  rintro e w1 ⟨v, E, rfl, hup, ⟨_, rfl, h2⟩ | ⟨h1, _, _⟩⟩
  · exact ⟨v, rfl, Iz.of h2 (okS_back h).2, hup⟩
  · rw [h] at h1; cases h1
theorem parsN (hs : s.size ≤ 1000) (h : okS s = false) : Calls Tryz.prog 67 #[.string s] w (PIE w 0 2) := by
  refine (parse_any s w hs).mono ?_
  rintro e w1 ⟨v, E, rfl, hup, ⟨h1, _, _⟩ | ⟨_, rfl, h2⟩⟩
  · rw [h] at h1; cases h1
  · exact ⟨v, rfl, Iz.of h2 (by simpa using top_pos), hup⟩
theorem rparsY (hs : s.size ≤ 1000) (h : okS s = true) : Calls Tryz.prog 79 #[.string s] w (PIE w (valS s) 0) := by
  refine (rparse_any s w hs).mono ?_
  rintro e w1 ⟨v, E, rfl, hup, ⟨_, rfl, h2⟩ | ⟨h1, _, _⟩⟩
  · exact ⟨v, rfl, Iz.of h2 (okS_back h).2, hup⟩
  · rw [h] at h1; cases h1
theorem rparsN (hs : s.size ≤ 1000) (h : okS s = false) : Calls Tryz.prog 79 #[.string s] w (PIE w 0 2) := by
  refine (rparse_any s w hs).mono ?_
  rintro e w1 ⟨v, E, rfl, hup, ⟨h1, _, _⟩ | ⟨_, rfl, h2⟩⟩
  · rw [h] at h1; cases h1
  · exact ⟨v, rfl, Iz.of h2 (by simpa using top_pos), hup⟩
theorem fmtLQ {v : Value} {p q : Int} {T : ByteArray} (h : Fz w v p q) (hp : Pow w) (hl : lowB p q = true) (hT : rtx p q = T) : Calls Tryz.prog 29 #[v] w (PSE w T 0) := by
  obtain ⟨e1, e2⟩ := low_of hl
  have := fmtRQ (r := fr p q) (h.congr e1.symm e2.symm) hp
  rwa [e1, e2, hT] at this
theorem rfmtLQ {v : Value} {p q : Int} {T : ByteArray} (h : Fz w v p q) (hl : lowB p q = true) (hT : rtx p q = T) : Calls Tryz.prog 39 #[v] w (PSE w T 0) := by
  obtain ⟨e1, e2⟩ := low_of hl
  have := rfmtRQ (r := fr p q) (h.congr e1.symm e2.symm)
  rwa [e1, e2, hT] at this
theorem fmtMQ {v : Value} {p q : Int} (h : Fz w v p q) (hl : lowB p q = false) : Calls Tryz.prog 29 #[v] w (PSE w ⟨#[]⟩ 1) := fmtNQ (.inr (.inr ⟨p, q, h, hl⟩))
theorem rfmtMQ {v : Value} {p q : Int} (h : Fz w v p q) (hl : lowB p q = false) : Calls Tryz.prog 39 #[v] w (PSE w ⟨#[]⟩ 1) := rfmtNQ (.inr (.inr ⟨p, q, h, hl⟩))
end
end Go.Proofs.YtldifgfpecicnaaGreatDoor
