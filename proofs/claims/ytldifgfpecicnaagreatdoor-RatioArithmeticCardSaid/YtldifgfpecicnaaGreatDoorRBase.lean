/- Integers and fractions in memory, and how they are kept under writes to boxes. -/
import Derived.Test.YtldifgfpecicnaaGreatDoorGE
import Derived.Test.YtldifgfpecicnaaGreatDoorGK
import Derived.Test.YtldifgfpecicnaaGreatDoorGV
import Derived.Test.YtldifgfpecicnaaGreatDoorGC
import Derived.Test.YtldifgfpecicnaaGreatDoorGA
namespace Go.Proofs.YtldifgfpecicnaaGreatDoor
open Go.RowKit

/-- No cell of these holds a limb. -/
def NoU (cs : Array Value) : Prop := ∀ (i : Nat) (x : Nat), cs[i]? ≠ some (.int .u32 (x : Int))
theorem noU2 (s : Bool) (A : Option Addr) (n c : Nat) : NoU #[.bool s, .slice A n c] := by
  intro i x
  match i with
  | 0 => simp
  | 1 => simp
  | _ + 2 => simp
theorem noU4 (s t : Bool) (A B : Option Addr) (n c m d : Nat) : NoU #[.bool s, .slice A n c, .bool t, .slice B m d] := by
  intro i x
  match i with
  | 0 => simp
  | 1 => simp
  | 2 => simp
  | 3 => simp
  | _ + 4 => simp
/-- A slice of limbs does not lie in block g. -/
def Off (g : Nat) (A : Option Addr) (l : List Nat) : Prop := l = [] ∨ ∃ ad, A = some ad ∧ ad.block ≠ g
theorem Lim.off {w : World} {A : Option Addr} {l : List Nat} {g : Nat} {t : TypeId} {cs : Array Value} (h : Lim w A l) (hb : Bk w g t cs) (hn : NoU cs) : Off g A l := by
  rcases h with rfl | ⟨ad, rfl, hlt, hc⟩
  · exact Or.inl rfl
  · by_cases hl : l = []
    · exact Or.inl hl
    · refine Or.inr ⟨ad, rfl, fun e => ?_⟩
      obtain ⟨x0, l', rfl⟩ := List.exists_cons_of_ne_nil hl
      have h0 := hc 0 x0 rfl
      have ha : ad.add 0 = ad := by simp [Addr.add]
      rw [ha] at h0
      unfold Bk at hb
      rw [← e] at hb
      have h1 : w.cell? ad = cs[ad.off]? ∨ ad.spot.isSome = true := by
        cases hsp : ad.spot with
        | none => left; simp [World.cell?, hb, hsp]
        | some _ => right; rfl
      rcases h1 with h1 | h1
      · rw [h1] at h0; exact hn _ _ h0
      · have := World.cell?_spot h0
        rw [this] at h1
        cases h1
theorem Lim.setC {w : World} {A : Option Addr} {l : List Nat} {g : Nat} (h : Lim w A l) (ho : Off g A l) (i : Nat) (x : Value) : Lim (w.setCell ⟨g, i, none⟩ x) A l := by
  rcases h with rfl | ⟨ad, rfl, hlt, hc⟩
  · exact Or.inl rfl
  · rcases ho with ho | ⟨ad', e, hne⟩
    · exact Or.inl ho
    · cases e
      refine Or.inr ⟨ad, rfl, by simpa using hlt, fun j z hz => ?_⟩
      exact (World.cell?_setCell_other _ _ _ _ (fun e => hne (by have := congrArg Addr.block e; rw [addBlock] at this; exact this.symm))).trans (hc j z hz)
/-- A whole fraction stored in a box. -/
def st4 (w : World) (g : Nat) (x y z u : Value) : World := (((w.setCell ⟨g, 0, none⟩ x).setCell ⟨g, 1, none⟩ y).setCell ⟨g, 2, none⟩ z).setCell ⟨g, 3, none⟩ u
theorem Lim.st2 {w : World} {A : Option Addr} {l : List Nat} {g : Nat} {t : TypeId} {cs : Array Value} (h : Lim w A l) (hb : Bk w g t cs) (hn : NoU cs) (x y : Value) : Lim ((w.setCell ⟨g, 0, none⟩ x).setCell ⟨g, 1, none⟩ y) A l :=
  (h.setC (h.off hb hn) 0 x).setC (h.off hb hn) 1 y
theorem Lim.st4 {w : World} {A : Option Addr} {l : List Nat} {g : Nat} {t : TypeId} {cs : Array Value} (h : Lim w A l) (hb : Bk w g t cs) (hn : NoU cs) (x y z u : Value) : Lim (st4 w g x y z u) A l :=
  (((h.setC (h.off hb hn) 0 x).setC (h.off hb hn) 1 y).setC (h.off hb hn) 2 z).setC (h.off hb hn) 3 u
theorem Bk.far4 {w : World} {g : Nat} {t : TypeId} {cs : Array Value} (h : Bk w g t cs) {g' : Nat} (hp : g ≠ g') (x y z u : Value) : Bk (Go.Proofs.YtldifgfpecicnaaGreatDoor.st4 w g' x y z u) g t cs :=
  (((h.far (p := ⟨g', 0, none⟩) hp x).far (p := ⟨g', 1, none⟩) hp y).far (p := ⟨g', 2, none⟩) hp z).far (p := ⟨g', 3, none⟩) hp u
theorem Bk.four {w : World} {g : Nat} {t : TypeId} {a b c d : Value} (h : Bk w g t #[a, b, c, d]) (x y z u : Value) : Bk (Go.Proofs.YtldifgfpecicnaaGreatDoor.st4 w g x y z u) g t #[x, y, z, u] :=
  (((h.setCell 0 x).setCell 1 y).setCell 2 z).setCell 3 u
theorem Up.st4 {a w : World} {g : Nat} (h : Up a w) (hg : a.heap.size ≤ g) (x y z u : Value) : Up a (Go.Proofs.YtldifgfpecicnaaGreatDoor.st4 w g x y z u) :=
  (((h.setCell (p := ⟨g, 0, none⟩) hg x).setCell (p := ⟨g, 1, none⟩) hg y).setCell (p := ⟨g, 2, none⟩) hg z).setCell (p := ⟨g, 3, none⟩) hg u

/-- An integer of at most 300 digits. -/
def Iz (w : World) (v : Value) (z : Int) : Prop := IsInt 0 w v z ∧ z.natAbs < top300
section
variable {w w' : World} {v : Value} {z : Int}
theorem Iz.up (h : Iz w v z) (hu : Up w w') : Iz w' v z := ⟨h.1.up hu, h.2⟩
theorem Iz.agg (h : Iz w v z) : ∃ s A n c, v = .agg #[.bool s, .slice A n c] := by
  obtain ⟨⟨s, A, n, c, rfl, _⟩, _⟩ := h
  exact ⟨s, A, n, c, rfl⟩
theorem Iz.st2 {g : Nat} {t : TypeId} {cs : Array Value} (h : Iz w v z) (hb : Bk w g t cs) (hn : NoU cs) (x y : Value) : Iz ((w.setCell ⟨g, 0, none⟩ x).setCell ⟨g, 1, none⟩ y) v z := by
  obtain ⟨⟨s, A, n, c, rfl, h1, h2, h3, h4, h5⟩, h6⟩ := h
  exact ⟨⟨s, A, n, c, rfl, h1, h2, h3.st2 hb hn x y, h4, h5⟩, h6⟩
theorem Iz.st4 {g : Nat} {t : TypeId} {cs : Array Value} (h : Iz w v z) (hb : Bk w g t cs) (hn : NoU cs) (x y a b : Value) : Iz (Go.Proofs.YtldifgfpecicnaaGreatDoor.st4 w g x y a b) v z := by
  obtain ⟨⟨s, A, n, c, rfl, h1, h2, h3, h4, h5⟩, h6⟩ := h
  exact ⟨⟨s, A, n, c, rfl, h1, h2, h3.st4 hb hn x y a b, h4, h5⟩, h6⟩
theorem top_pos : 0 < top300 := by have := bas_pos 33; unfold top300; omega
theorem Iz.zero (w : World) : Iz w (.agg #[.bool false, .slice none 0 0]) 0 := ⟨IsInt.zero 0 w, by have := top_pos; simpa using this⟩
theorem Iz.of {B : Nat} (h : IsInt B w v z) (hz : z.natAbs < top300) : Iz w v z := ⟨h.mono (Nat.zero_le _), hz⟩
theorem Iz.congr {z' : Int} (h : Iz w v z) (e : z = z') : Iz w v z' := e ▸ h
end
/-- A pair of integers: a struct in a struct lies flat. -/
def Fz (w : World) (v : Value) (p q : Int) : Prop := ∃ s A n c t B m d, v = .agg #[.bool s, .slice A n c, .bool t, .slice B m d] ∧ Iz w (.agg #[.bool s, .slice A n c]) p ∧ Iz w (.agg #[.bool t, .slice B m d]) q
theorem Fz.up {w w' : World} {v : Value} {p q : Int} (h : Fz w v p q) (hu : Up w w') : Fz w' v p q := by
  obtain ⟨s, A, n, c, t, B, m, d, rfl, h1, h2⟩ := h
  exact ⟨s, A, n, c, t, B, m, d, rfl, h1.up hu, h2.up hu⟩
theorem Fz.mk {w : World} {s t : Bool} {A B : Option Addr} {n c m d : Nat} {p q : Int} (h : Iz w (.agg #[.bool s, .slice A n c]) p) (h' : Iz w (.agg #[.bool t, .slice B m d]) q) : Fz w (.agg #[.bool s, .slice A n c, .bool t, .slice B m d]) p q := ⟨s, A, n, c, t, B, m, d, rfl, h, h'⟩
theorem Fz.zero (w : World) : Fz w (.agg #[.bool false, .slice none 0 0, .bool false, .slice none 0 0]) 0 0 := Fz.mk (Iz.zero w) (Iz.zero w)
theorem Fz.congr {w : World} {v : Value} {p q p' q' : Int} (h : Fz w v p q) (e : p = p') (e' : q = q') : Fz w v p' q' := e ▸ e' ▸ h
/-- A fraction in lowest terms. -/
def Rz (w : World) (v : Value) (r : Rat) : Prop := Fz w v (nm r) (dn r)
theorem Rz.up {w w' : World} {v : Value} {r : Rat} (h : Rz w v r) (hu : Up w w') : Rz w' v r := Fz.up h hu

/-- What functions return. -/
def PI (w : World) (z : Int) (e : Ending) (w' : World) : Prop := ∃ v, e = .returned v ∧ Iz w' v z ∧ Up w w'
def PIE (w : World) (z k : Int) (e : Ending) (w' : World) : Prop := ∃ v, e = .returned (.tuple #[v, .int .i64 k]) ∧ Iz w' v z ∧ Up w w'
def PIIE (w : World) (z y k : Int) (e : Ending) (w' : World) : Prop := ∃ v u, e = .returned (.tuple #[v, u, .int .i64 k]) ∧ Iz w' v z ∧ Iz w' u y ∧ Up w w'
def PIIIE (w : World) (z y x k : Int) (e : Ending) (w' : World) : Prop := ∃ v u t, e = .returned (.tuple #[v, u, t, .int .i64 k]) ∧ Iz w' v z ∧ Iz w' u y ∧ Iz w' t x ∧ Up w w'
def PB (w : World) (b : Bool) (e : Ending) (w' : World) : Prop := e = .returned (.bool b) ∧ Up w w'
def PN (w : World) (k : Int) (e : Ending) (w' : World) : Prop := e = .returned (.int .i64 k) ∧ Up w w'
def PNE (w : World) (k l : Int) (e : Ending) (w' : World) : Prop := e = .returned (.tuple #[.int .i64 k, .int .i64 l]) ∧ Up w w'
def PF (w : World) (p q : Int) (e : Ending) (w' : World) : Prop := ∃ v, e = .returned v ∧ Fz w' v p q ∧ Up w w'
def PFE (w : World) (p q k : Int) (e : Ending) (w' : World) : Prop := ∃ v, e = .returned (.tuple #[v, .int .i64 k]) ∧ Fz w' v p q ∧ Up w w'
def PS (w : World) (s : ByteArray) (e : Ending) (w' : World) : Prop := e = .returned (.string s) ∧ Up w w'
def PSE (w : World) (s : ByteArray) (k : Int) (e : Ending) (w' : World) : Prop := e = .returned (.tuple #[.string s, .int .i64 k]) ∧ Up w w'

section
variable {w : World} {v v' : Value} {x y : Int}
theorem gcdQ (h : Iz w v x) (h' : Iz w v' y) : Calls Tryz.prog 54 #[v, v'] w (PIE w (Nat.gcd x.natAbs y.natAbs : Nat) 0) := by
  refine (gcdI_any 0 0 v v' x y w h.1 h'.1 h.2 h'.2 (.inl long_any)).mono ?_
  rintro e w1 ⟨u, rfl, hu, hup⟩
  refine ⟨u, rfl, Iz.of hu ?_, hup⟩
  rw [Int.natAbs_natCast]
  by_cases hx : x.natAbs = 0
  · rw [hx, Nat.gcd_zero_left]; exact h'.2
  · exact Nat.lt_of_le_of_lt (Nat.gcd_le_left _ (by omega)) h.2
theorem rgcdQ (h : Iz w v x) (h' : Iz w v' y) : Calls Tryz.prog 49 #[v, v'] w (PI w (Nat.gcd x.natAbs y.natAbs : Nat)) := by
  refine (rgcdI_any 0 0 v v' x y w h.1 h'.1 h.2 h'.2).mono ?_
  rintro e w1 ⟨u, rfl, hu, hup⟩
  refine ⟨u, rfl, Iz.of hu ?_, hup⟩
  rw [Int.natAbs_natCast]
  by_cases hx : x.natAbs = 0
  · rw [hx, Nat.gcd_zero_left]; exact h'.2
  · exact Nat.lt_of_le_of_lt (Nat.gcd_le_left _ (by omega)) h.2
theorem tdiv_top2 {x : Int} (y : Int) (hx : x.natAbs < top300) : (x.tdiv y).natAbs < top300 := by
  rw [Int.natAbs_tdiv]; exact Nat.lt_of_le_of_lt (Nat.div_le_self _ _) hx
theorem tmod_top2 {x : Int} (y : Int) (hx : x.natAbs < top300) : (x.tmod y).natAbs < top300 := by
  rw [Int.natAbs_tmod]; exact Nat.lt_of_le_of_lt (Nat.mod_le _ _) hx
theorem divQ (h : Iz w v x) (h' : Iz w v' y) (hy : y ≠ 0) : Calls Tryz.prog 70 #[v, v'] w (PIIE w (x.tdiv y) (x.tmod y) 0) := by
  refine (divI_any 0 0 v v' x y w h.1 h'.1 h.2 h'.2 hy (fun _ => long_any)).mono ?_
  rintro e w1 ⟨u, u', rfl, hu, hu', hup⟩
  exact ⟨u, u', rfl, Iz.of hu (tdiv_top2 y h.2), Iz.of hu' (tmod_top2 y h.2), hup⟩
theorem rdivQ (h : Iz w v x) (h' : Iz w v' y) (hy : y ≠ 0) : Calls Tryz.prog 50 #[v, v'] w (PIIE w (x.tdiv y) (x.tmod y) 0) := by
  refine (rdivI_any 0 0 v v' x y w h.1 h'.1 h.2 h'.2 hy).mono ?_
  rintro e w1 ⟨u, u', rfl, hu, hu', hup⟩
  exact ⟨u, u', rfl, Iz.of hu (tdiv_top2 y h.2), Iz.of hu' (tmod_top2 y h.2), hup⟩
theorem ret_ok {z : Int} {e : Ending} {w' : World} (hz : z.natAbs < top300) (h : RetIntE w z e w') : PIE w z 0 e w' := by
  obtain ⟨u, rfl, hu, hup⟩ := h
  rw [(bnd_ok hz).1] at hu
  rw [(bnd_ok hz).2]
  exact ⟨u, rfl, Iz.of hu hz, hup⟩
theorem ret_no {z : Int} {e : Ending} {w' : World} (hz : ¬ z.natAbs < top300) (h : RetIntE w z e w') : PIE w 0 3 e w' := by
  obtain ⟨u, rfl, hu, hup⟩ := h
  rw [(bnd_no hz).1] at hu
  rw [(bnd_no hz).2]
  exact ⟨u, rfl, Iz.of hu (by simpa using top_pos), hup⟩
theorem mulQ (h : Iz w v x) (h' : Iz w v' y) (hz : okB (x * y) = true) : Calls Tryz.prog 69 #[v, v'] w (PIE w (x * y) 0) := (mulI_any 0 0 v v' x y w h.1 h'.1 h.2 h'.2).mono fun _ _ hr => ret_ok (okB_lt hz) hr
theorem mulN (h : Iz w v x) (h' : Iz w v' y) (hz : okB (x * y) = false) : Calls Tryz.prog 69 #[v, v'] w (PIE w 0 3) := (mulI_any 0 0 v v' x y w h.1 h'.1 h.2 h'.2).mono fun _ _ hr => ret_no (by unfold okB at hz; simpa using hz) hr
theorem rmulQ (h : Iz w v x) (h' : Iz w v' y) (hz : okB (x * y) = true) : Calls Tryz.prog 73 #[v, v'] w (PIE w (x * y) 0) := (rmulI_any 0 0 v v' x y w h.1 h'.1 h.2 h'.2).mono fun _ _ hr => ret_ok (okB_lt hz) hr
theorem rmulN (h : Iz w v x) (h' : Iz w v' y) (hz : okB (x * y) = false) : Calls Tryz.prog 73 #[v, v'] w (PIE w 0 3) := (rmulI_any 0 0 v v' x y w h.1 h'.1 h.2 h'.2).mono fun _ _ hr => ret_no (by unfold okB at hz; simpa using hz) hr
theorem addQ (h : Iz w v x) (h' : Iz w v' y) (hz : okB (x + y) = true) : Calls Tryz.prog 91 #[v, v'] w (PIE w (x + y) 0) := (add_any 0 0 v v' x y w h.1 h'.1 h.2 h'.2).mono fun _ _ hr => ret_ok (okB_lt hz) hr
theorem addN (h : Iz w v x) (h' : Iz w v' y) (hz : okB (x + y) = false) : Calls Tryz.prog 91 #[v, v'] w (PIE w 0 3) := (add_any 0 0 v v' x y w h.1 h'.1 h.2 h'.2).mono fun _ _ hr => ret_no (by unfold okB at hz; simpa using hz) hr
theorem raddQ (h : Iz w v x) (h' : Iz w v' y) (hz : okB (x + y) = true) : Calls Tryz.prog 108 #[v, v'] w (PIE w (x + y) 0) := (raddI_any 0 0 v v' x y w h.1 h'.1 h.2 h'.2).mono fun _ _ hr => ret_ok (okB_lt hz) hr
theorem raddN (h : Iz w v x) (h' : Iz w v' y) (hz : okB (x + y) = false) : Calls Tryz.prog 108 #[v, v'] w (PIE w 0 3) := (raddI_any 0 0 v v' x y w h.1 h'.1 h.2 h'.2).mono fun _ _ hr => ret_no (by unfold okB at hz; simpa using hz) hr
theorem subQ (h : Iz w v x) (h' : Iz w v' y) (hz : okB (x - y) = true) : Calls Tryz.prog 63 #[v, v'] w (PIE w (x - y) 0) := (sub_any 0 0 v v' x y w h.1 h'.1 h.2 h'.2).mono fun _ _ hr => ret_ok (okB_lt hz) hr
theorem subN (h : Iz w v x) (h' : Iz w v' y) (hz : okB (x - y) = false) : Calls Tryz.prog 63 #[v, v'] w (PIE w 0 3) := (sub_any 0 0 v v' x y w h.1 h'.1 h.2 h'.2).mono fun _ _ hr => ret_no (by unfold okB at hz; simpa using hz) hr
theorem negQ (h : Iz w v x) : Calls Tryz.prog 48 #[v] w (PI w (-x)) := by
  refine (neg_any 0 v x w h.1 h.2).mono ?_
  rintro e w1 ⟨u, rfl, hu, hup⟩
  exact ⟨u, rfl, Iz.of hu (by rw [Int.natAbs_neg]; exact h.2), hup⟩
theorem absQ (h : Iz w v x) : Calls Tryz.prog 56 #[v] w (PI w x.natAbs) := by
  refine (abs_any 0 v x w h.1 h.2).mono ?_
  rintro e w1 ⟨u, rfl, hu, hup⟩
  exact ⟨u, rfl, Iz.of hu (by rw [Int.natAbs_natCast]; exact h.2), hup⟩
theorem validQ (h : Iz w v x) : Calls Tryz.prog 44 #[v] w (PB w true) := validI_any 0 v x w h.1 h.2
theorem rvalidQ (h : Iz w v x) : Calls Tryz.prog 47 #[v] w (PB w true) := by
  obtain ⟨⟨s, A, n, c, rfl, Hs, Hn, hl, hc, _⟩, hz⟩ := h
  refine (rvalid_raw s A c n _ w hl (dig_lim _).w32 Hn (by rw [Hn.out]; have := len_of_top hz; omega)).mono ?_
  rintro e w1 ⟨rfl, hup⟩
  exact ⟨by rw [rawValid_int Hs.out hz], hup⟩
theorem signQ (k : Int) (h : Iz w v x) (hk : x.sign = k) : Calls Tryz.prog 45 #[v] w (PN w k) := by rw [← hk]; exact signI_any 0 v x w h.1 h.2
theorem rsignQ (k : Int) (h : Iz w v x) (hk : x.sign = k) : Calls Tryz.prog 37 #[v] w (PN w k) := by
  obtain ⟨⟨s, A, n, c, rfl, Hs, Hn, hl, hc, _⟩, hz⟩ := h
  rw [← hk, ← sgV_int Hs Hn]
  exact rsignV_any s A c n w (by rw [Hn.out]; have := len_of_top hz; omega)
theorem cmpQ (k : Int) (h : Iz w v x) (h' : Iz w v' y) (hk : cmpZ x y = k) : Calls Tryz.prog 60 #[v, v'] w (PN w k) := by rw [← hk]; exact cmpI_any 0 0 v v' x y w h.1 h'.1 h.2 h'.2
theorem rcmpQ (k : Int) (h : Iz w v x) (h' : Iz w v' y) (hk : cmpZ x y = k) : Calls Tryz.prog 75 #[v, v'] w (PN w k) := by rw [← hk]; exact rcmpI_any 0 0 v v' x y w h.1 h'.1 h.2 h'.2
theorem ofQ (z : Int) (h1 : -9223372036854775808 ≤ z) (h2 : z ≤ 9223372036854775807) : Calls Tryz.prog 51 #[.int .i64 z] w (PI w z) := by
  refine (ofI z w h1 h2).mono ?_
  rintro e w1 ⟨u, rfl, hu, hup⟩
  exact ⟨u, rfl, Iz.of hu (i64_top h1 h2), hup⟩
theorem rofQ (z : Int) (h1 : -9223372036854775808 ≤ z) (h2 : z ≤ 9223372036854775807) : Calls Tryz.prog 52 #[.int .i64 z] w (PI w z) := by
  refine (rofI z w h1 h2).mono ?_
  rintro e w1 ⟨u, rfl, hu, hup⟩
  exact ⟨u, rfl, Iz.of hu (i64_top h1 h2), hup⟩
theorem requalQ (h : Iz w v x) (h' : Iz w v' x) : Calls Tryz.prog 53 #[v, v'] w (PB w true) := equalI 0 0 v v' x w h.1 h'.1 h.2
end
end Go.Proofs.YtldifgfpecicnaaGreatDoor
