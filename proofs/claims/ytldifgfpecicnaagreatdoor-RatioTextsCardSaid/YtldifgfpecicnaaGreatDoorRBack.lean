/- The text of a fraction leads to it again. -/
import Derived.Test.YtldifgfpecicnaaGreatDoorR16
namespace Go.Proofs.YtldifgfpecicnaaGreatDoor
open Go.RowKit

theorem index_at : ∀ (l m : List UInt8), (∀ x ∈ l, x ≠ 47) → Lib.indexByte (l ++ 47 :: m) 47 = (l.length : Int)
  | [], m, _ => by simp [Lib.indexByte]
  | b :: l, m, h => by
    have ih := index_at l m (fun x hx => h x (List.mem_cons_of_mem _ hx))
    have hb : (b == 47) = false := by rw [beq_eq_false_iff_ne]; exact h b List.mem_cons_self
    rw [List.cons_append, Lib.indexByte, hb, ih]
    have hn : ((l.length : Int) == -1) = false := by rw [beq_eq_false_iff_ne]; omega
    rw [hn]
    simp
theorem index_none : ∀ (l : List UInt8), (∀ x ∈ l, x ≠ 47) → Lib.indexByte l 47 = -1
  | [], _ => rfl
  | b :: l, h => by
    have ih := index_none l (fun x hx => h x (List.mem_cons_of_mem _ hx))
    have hb : (b == 47) = false := by rw [beq_eq_false_iff_ne]; exact h b List.mem_cons_self
    rw [Lib.indexByte, hb, ih]; rfl
theorem bs_list (l : List Nat) : (bs l).data.toList = l.map UInt8.ofNat := by unfold bs; simp
theorem bs_ne {l : List Nat} (h : ∀ x ∈ l, x ≠ 47) (h2 : ∀ x ∈ l, x < 256) : ∀ x ∈ l.map UInt8.ofNat, x ≠ 47 := by
  intro x hx
  obtain ⟨y, hy, rfl⟩ := List.mem_map.1 hx
  intro e
  have e2 := congrArg UInt8.toNat e
  rw [UInt8.toNat_ofNat_of_lt' (h2 y hy)] at e2
  exact h y hy e2
theorem bs_extract (l : List Nat) (i j : Nat) : (bs l).extract i j = bs ((l.drop i).take (j - i)) := by
  unfold bs
  rw [ByteArray.extract_mk]
  simp [List.map_drop, List.map_take]
theorem rtx_two (p q : Int) (h : q ≠ 1) : rtx p q = bs (itxt p ++ 47 :: itxt q) := by
  unfold rtx
  rw [if_neg h, show (⟨#[47]⟩ : ByteArray) = bs [47] from rfl, bs_append, bs_append, List.append_assoc]; rfl
theorem one_ok : okS ⟨#[49]⟩ = true ∧ valS ⟨#[49]⟩ = 1 := by decide +kernel
theorem parsB_rtx {p q : Int} (hl : lowB p q = true) (hp : p.natAbs < top300) (hq : q.natAbs < top300) : parsB (rtx p q) = true ∧ valS (sL (rtx p q)) = p ∧ valS (sR (rtx p q)) = q := by
  have ep := okS_itxt hp
  have eq := okS_itxt hq
  by_cases h : q = 1
  · subst h
    have hs : rtx p 1 = bs (itxt p) := by unfold rtx; rw [if_pos rfl]
    have hix : ix47 (rtx p 1) = -1 := by unfold ix47; rw [hs, bs_list]; exact index_none _ (bs_ne itxt_ne itxt_lt)
    have hb : hasB (rtx p 1) = false := by unfold hasB; rw [hix]; rfl
    have eL : sL (rtx p 1) = bs (itxt p) := by unfold sL; rw [hb, hs]; rfl
    have eR : sR (rtx p 1) = ⟨#[49]⟩ := by unfold sR; rw [hb]; rfl
    unfold parsB
    rw [eL, eR, ep.1, ep.2, one_ok.1, one_ok.2, hl]
    exact ⟨by simp, rfl, rfl⟩
  · have hs := rtx_two p q h
    have hix : ix47 (rtx p q) = ((itxt p).length : Int) := by
      unfold ix47
      rw [hs, bs_list, List.map_append, List.map_cons]
      have := index_at ((itxt p).map UInt8.ofNat) ((itxt q).map UInt8.ofNat) (bs_ne itxt_ne itxt_lt)
      rw [List.length_map] at this
      exact this
    have hb : hasB (rtx p q) = true := by unfold hasB; rw [hix]; simp
    have eL : sL (rtx p q) = bs (itxt p) := by
      unfold sL
      rw [hb, hix, hs]
      simp only [if_true, Int.toNat_natCast]
      rw [bs_extract, List.drop_zero, Nat.sub_zero, List.take_left']
      rfl
    have eR : sR (rtx p q) = bs (itxt q) := by
      unfold sR
      rw [hb, hix, hs]
      simp only [if_true, Int.toNat_natCast]
      rw [bs_extract, bs_size]
      congr 1
      rw [List.drop_append, List.drop_of_length_le (by omega), List.nil_append, show (itxt p).length + 1 - (itxt p).length = 1 by omega]
      simp
      exact List.take_of_length_le (by omega)
    unfold parsB
    rw [eL, eR, ep.1, ep.2, eq.1, eq.2, hl]
    exact ⟨by simp, rfl, rfl⟩
theorem pars_rtx {p q : Int} (hl : lowB p q = true) (hp : p.natAbs < top300) (hq : q.natAbs < top300) : parsR (rtx p q) = ⟨0, p, q⟩ := by
  obtain ⟨h1, h2, h3⟩ := parsB_rtx hl hp hq
  unfold parsR
  rw [h1, h2, h3]; rfl
theorem rtx_size {p q : Int} (hp : p.natAbs < top300) (hq : q.natAbs < top300) : (rtx p q).size ≤ 999 := by
  have h1 := itxt_size hp
  have h2 := itxt_size hq
  unfold rtx
  split
  · omega
  · rw [ByteArray.size_append, ByteArray.size_append, size_47]; omega
theorem Rz.fits {w : World} {v : Value} {r : Rat} (h : Rz w v r) : (nm r).natAbs < top300 ∧ (dn r).natAbs < top300 := by
  obtain ⟨s, A, n, c, t, B, m, d, rfl, h1, h2⟩ := h
  exact ⟨h1.2, h2.2⟩
theorem backQ {w W : World} {v : Value} {r : Rat} (h : Rz W v r) (hp : Pow w) : Calls Tryz.prog 40 #[.string (rtx (nm r) (dn r))] w (PFE w (nm r) (dn r) 0) := by
  obtain ⟨h1, h2⟩ := h.fits
  have hc := parseRQ (w := w) (rtx (nm r) (dn r)) (rtx_size h1 h2) hp
  rw [pars_rtx (low_rat r) h1 h2] at hc; exact hc
end Go.Proofs.YtldifgfpecicnaaGreatDoor
