/- Walks: characters of literals are appended; literals. -/
import Derived.Test.YtnhncakkbfjdjaaDoorWj
import Derived.Deep.RegionLaw
namespace Go.Proofs.YtnhncakkbfjdjaaDoor
open Go.RowKit

/-- What appends to a row returns: the longer row; nothing below the base has changed. -/
def RetApp (w : World) (base : Nat) (l : List Nat) (e : Ending) (w' : World) : Prop := ∃ v n, e = .returned v ∧ Own w' base v n l ∧ Below base w w'
theorem lim_row (w : World) (l : List Nat) (cs : Array Value) (hcs : cs = (u8s l).toArray) : Lim (w.alloc (.cells cs 5)) (some ⟨w.heap.size, 0, none⟩) l := by
  subst hcs
  refine Or.inr ⟨_, rfl, by simp, fun j x hx => ?_⟩
  have ha : ((⟨w.heap.size, 0, none⟩ : Addr).add j) = ⟨w.heap.size, j, none⟩ := by unfold Addr.add; split <;> simp_all
  rw [ha, World.cell?_alloc_new]
  rw [List.getElem?_toArray]
  exact u8s_get hx
/-- append as a step of a region that draws. -/
theorem step_app {w : World} {ops : Array Oper} {o : Oper} {a : Act} {K : Act → World → Prop} {Q : Exit → Act → World → Prop} {E : Prop} (hgd : o.guard = none) (s x : Operand)
    (ho : o.op = .call { callee := .builtin .append, args := #[s, x], argTypes := #[45, 45] })
    (base : Nat) (v : Value) (n : Nat) (xs : List Nat) (hs : a.eval s = v) (hown : Own w base v n xs) (A : Option Addr) (m c : Nat) (l : List Nat) (hx : a.eval x = .slice A m c) (hl : l.length = m) (hA : Lim w A l) (hb : n + m ≤ 1000000) (hbase : base ≤ w.heap.size)
    (h : ∀ v' w', Own w' base v' (n + m) (xs ++ l) → w.grownBy w' v.ownBlock → K (a.put o.dst v') w') : if Region.wanted o (yielded ops a.tmps) = true then Oper.wp Tryd.prog o a w K Q else E := by
  have hw : Region.wanted o (yielded ops a.tmps) = true := by simp [Region.wanted, hgd]
  rw [if_pos hw]
  obtain ⟨v', w', hr, h2, h3⟩ := run_app w base o.type v n xs hown A m c l hl hA hb hbase
  unfold Oper.wp execOp
  simp only [ho, resolve, invoke, builtin, Sem.run_bind, Sem.run_pure, Result.andThen_ok, List.map_toArray, List.map_cons, List.map_nil, hs, hx, hr]
  exact h v' w' h2 h3
theorem and15 : ∀ c : Nat, c < 256 → bits .and .u8 (c : Int) 15 = ((c % 16 : Nat) : Int) := by decide +kernel
theorem hexAt : ∀ n : Nat, (h : n < 16) → (((⟨#[48, 49, 50, 51, 52, 53, 54, 55, 56, 57, 97, 98, 99, 100, 101, 102]⟩ : ByteArray)[n]'h).toNat : Int) = ((hxc n : Nat) : Int) := by decide +kernel
set_option maxRecDepth 100000 in
set_option maxHeartbeats 2000000 in
theorem appChr_any (base : Nat) (v : Value) (m : Nat) (l : List Nat) (c : Nat) (w : World) (hown : Own w base v m l) (hm : m ≤ 900000) (hc : c < 256) (hbase : base ≤ w.heap.size) :
    Calls Tryd.prog 34 #[v, .int .u8 (c : Int)] w (RetApp w base (l ++ esc c)) := by
  by_cases h1 : c = 34
  · have HE : Hid (esc c = [92, c]) := by show _ = _; unfold esc; rw [if_pos (Or.inl h1)]
    have e1 : ((c : Int) == 34) = true := by rw [h1]; rfl
    clear h1
    go_enter Tryd.func34, Tryd.ntmps34
    go_wp2_with (at_builtin; refine wp_app rfl _ _ rfl base _ _ _ rfl (hown.allo _) (some ⟨w.heap.size, 0, none⟩) 2 2 [92, c] rfl rfl (lim_row _ _ _ rfl) (by omega) (by simp; omega) ?_; intro v1 w1 hown1 hgrow1)
    go_ret
    exact ⟨v1, _, rfl, by rw [HE.out]; exact hown1, (hown.allo _).grownB ((Below.refl _ _).alloc hbase _) hgrow1 (by simp; omega)⟩
  · have e1 : ((c : Int) == 34) = false := by rw [beq_eq_false_iff_ne]; omega
    by_cases h2 : c = 92
    · have HE : Hid (esc c = [92, c]) := by show _ = _; unfold esc; rw [if_pos (Or.inr h2)]
      have e2 : ((c : Int) == 92) = true := by rw [h2]; rfl
      clear h1 h2
      go_enter Tryd.func34, Tryd.ntmps34
      go_wp2_with (at_builtin; refine wp_app rfl _ _ rfl base _ _ _ rfl (hown.allo _) (some ⟨w.heap.size, 0, none⟩) 2 2 [92, c] rfl rfl (lim_row _ _ _ rfl) (by omega) (by simp; omega) ?_; intro v1 w1 hown1 hgrow1)
      go_ret
      exact ⟨v1, _, rfl, by rw [HE.out]; exact hown1, (hown.allo _).grownB ((Below.refl _ _).alloc hbase _) hgrow1 (by simp; omega)⟩
    · have e2 : ((c : Int) == 92) = false := by rw [beq_eq_false_iff_ne]; omega
      by_cases h3 : c = 10
      · have HE : Hid (esc c = [92, 110]) := by show _ = _; unfold esc; rw [if_neg (by omega), if_pos h3]
        have e3 : ((c : Int) == 10) = true := by rw [h3]; rfl
        clear h1 h2 h3
        go_enter Tryd.func34, Tryd.ntmps34
        go_wp2_with (at_builtin; refine wp_app rfl _ _ rfl base _ _ _ rfl (hown.allo _) (some ⟨w.heap.size, 0, none⟩) 2 2 [92, 110] rfl rfl (lim_row _ _ _ rfl) (by omega) (by simp; omega) ?_; intro v1 w1 hown1 hgrow1)
        go_ret
        exact ⟨v1, _, rfl, by rw [HE.out]; exact hown1, (hown.allo _).grownB ((Below.refl _ _).alloc hbase _) hgrow1 (by simp; omega)⟩
      · have e3 : ((c : Int) == 10) = false := by rw [beq_eq_false_iff_ne]; omega
        by_cases h4 : isP c = true
        · have HE : Hid (esc c = [c]) := by show _ = _; unfold esc; rw [if_neg (by omega), if_neg h3, if_pos h4]
          have H4 := hide h4
          clear h1 h2 h3 h4
          go_enter Tryd.func34, Tryd.ntmps34
          go_wp2_with fail
          refine (isP_any c _ hc).mono ?_
          rw [H4.out]
          rintro e w' ⟨rfl, rfl⟩
          go_wp2_with (at_builtin; refine wp_app rfl _ _ rfl base _ _ _ rfl (hown.allo _) (some ⟨w.heap.size, 0, none⟩) 1 1 [c] rfl rfl (lim_row _ _ _ rfl) (by omega) (by simp; omega) ?_; intro v1 w1 hown1 hgrow1)
          go_ret
          exact ⟨v1, _, rfl, by rw [HE.out]; exact hown1, (hown.allo _).grownB ((Below.refl _ _).alloc hbase _) hgrow1 (by simp; omega)⟩
        · have HE : Hid (esc c = [92, 120, hxc (c / 16), hxc (c % 16)]) := by show _ = _; unfold esc; rw [if_neg (by omega), if_neg h3, if_neg h4]
          have H4 := hide (Bool.eq_false_iff.2 h4)
          clear h1 h2 h3 h4
          go_enter Tryd.func34, Tryd.ntmps34
          go_wp2_with fail
          refine (isP_any c _ hc).mono ?_
          rw [H4.out]
          rintro e w' ⟨rfl, rfl⟩
          obtain ⟨x, Hx⟩ : ∃ x, Hid (x = c / 16) := ⟨_, rfl⟩
          obtain ⟨y, Hy⟩ : ∃ y, Hid (y = c % 16) := ⟨_, rfl⟩
          have hx : x < 16 := by rw [Hx.out]; omega
          have hy : y < 16 := by rw [Hy.out]; omega
          have es : (c : Int) / 16 = (x : Int) := by rw [Hx.out]; omega
          have ea : bits .and .u8 (c : Int) 15 = (y : Int) := by rw [Hy.out]; exact and15 c hc
          have hax := hexAt x hx
          have hxi : (x : Int) < 16 := by omega
          have hyi : (y : Int) < 16 := by omega
          have hay := hexAt y hy
          rw [← Hx.out, ← Hy.out] at HE
          go_wp2
          go_region_law (refine step_app rfl _ _ rfl base _ _ _ rfl ((hown.up ((Up.refl _).drew)).allo _) (some ⟨w.heap.size, 0, none⟩) 4 4 [92, 120, hxc x, hxc y] rfl rfl (lim_row _ _ _ rfl) (by omega) (by simp; omega) ?_; intro v1 w1 hown1 hgrow1)
          all_goals
            go_wp2
            go_ret
            exact ⟨v1, _, rfl, by rw [HE.out]; exact hown1, ((hown.up ((Up.refl _).drew)).allo _).grownB (((Below.refl _ _).drew).alloc (by simpa using hbase) _) hgrow1 (by simp; omega)⟩
end Go.Proofs.YtnhncakkbfjdjaaDoor
