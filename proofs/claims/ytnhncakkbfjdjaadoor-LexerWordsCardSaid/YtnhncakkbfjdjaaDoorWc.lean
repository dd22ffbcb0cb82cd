/- Walks: names. -/
import Derived.Test.YtnhncakkbfjdjaaDoorWb
namespace Go.Proofs.YtnhncakkbfjdjaaDoor
open Go.RowKit

/-- A token in its line, as a value. -/
def tkv (t : Tk) (line : Int) : Value := .agg #[.int .i64 t.kind, .string (bs t.text), .int .i64 t.int, .string (bs t.str), .int .i64 line]
/-- A function that returns a token and its size. -/
def RetTok (w : World) (x : Tk × Nat) (e : Ending) (w' : World) : Prop := e = .returned (.tuple #[tkv x.1 0, .int .i64 (x.2 : Int)]) ∧ Up w w'
theorem slice_pre (s : ByteArray) (n : Nat) (h : n ≤ s.size) (W : World) : (Instr.slice 9 (.string s) none (some (.int .i64 (n : Int))) none).run Tryd.prog W = .ok (.string (s.extract 0 n)) W := by
  rw [run_slice_string_h W _ _ Tryd.underlying9 .i64 _ (by omega) (by omega)]; simp only [Int.toNat_natCast]
theorem ext_bs (s : ByteArray) (i j : Nat) : s.extract i j = bs (((by_ s).drop i).take (j - i)) := by rw [← bs_by (s.extract i j), by_extract]
theorem bs_nil : bs [] = ⟨#[]⟩ := rfl
set_option maxRecDepth 100000 in
set_option maxHeartbeats 1000000 in
theorem readName_any (s : ByteArray) (w : World) (hs : s.size ≤ 100000) (c : Nat) (r : List Nat) (hl : by_ s = c :: r) (hL : isL c = true) : Calls Tryd.prog 50 #[.string s] w (RetTok w (tok (by_ s))) := by
  obtain ⟨n, Hn⟩ : ∃ n, Hid (n = cnt isLD (by_ s)) := ⟨_, rfl⟩
  have hn : n ≤ s.size := by rw [Hn.out, ← by_len]; exact cnt_le _ _
  by_cases h24 : n ≤ 24
  · have HT : Hid (tok (by_ s) = (⟨1, (by_ s).take n, 0, []⟩, n)) := by
      show _ = _
      rw [Hn.out]
      rw [Hn.out] at h24
      rw [hl] at h24 ⊢
      unfold tok
      simp only [hL, h24, if_true]
    have cut : ∀ W : World, (Instr.slice 9 (.string s) none (some (.int .i64 (n : Int))) none).run Tryd.prog W = .ok (.string (bs ((by_ s).take n))) W := fun W => by rw [slice_pre s n hn, ext_bs]; rfl
    clear hl hL
    have h24' : decide ((24 : Int) < n) = false := decide_eq_false (by omega)
    go_enter Tryd.func50, Tryd.ntmps50
    go_wp2_with fail
    refine (cntLD s _ hs).mono ?_
    rw [← Hn.out]
    rintro e w' ⟨rfl, rfl⟩
    go_wp2
    exact bodyPost_ret (v := .tuple #[.agg #[.int .i64 1, .string (bs ((by_ s).take n)), .int .i64 0, .string ⟨#[]⟩, .int .i64 0], .int .i64 n]) (by simp [results, Tryd.results50, go_sem]) rfl ⟨by rw [HT.out]; rfl, (Up.refl _).alloc _⟩
  · have HT : Hid (tok (by_ s) = (tk0, 0)) := by
      show _ = _
      rw [Hn.out] at h24
      rw [hl] at h24 ⊢
      unfold tok
      simp only [hL, h24, if_true, if_false]
    clear hl hL
    have h24' : decide ((24 : Int) < n) = true := decide_eq_true (by omega)
    go_enter Tryd.func50, Tryd.ntmps50
    go_wp2_with fail
    refine (cntLD s _ hs).mono ?_
    rw [← Hn.out]
    rintro e w' ⟨rfl, rfl⟩
    go_wp2
    exact bodyPost_ret (v := .tuple #[.agg #[.int .i64 0, .string ⟨#[]⟩, .int .i64 0, .string ⟨#[]⟩, .int .i64 0], .int .i64 0]) (by simp [results, Tryd.results50, go_sem]) rfl ⟨by rw [HT.out]; rfl, (Up.refl _).alloc _⟩
end Go.Proofs.YtnhncakkbfjdjaaDoor
