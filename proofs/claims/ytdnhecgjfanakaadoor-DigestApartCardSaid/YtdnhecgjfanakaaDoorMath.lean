/- Plain mathematics: the check sum of bytes by shifts of a register; it is linear and loses nothing. -/
namespace Go.Proofs.YtdnhecgjfanakaaDoor

theorem xlc (a b c : Nat) : a ^^^ (b ^^^ c) = b ^^^ (a ^^^ c) := by rw [← Nat.xor_assoc, Nat.xor_comm a b, Nat.xor_assoc]
/-- One shift of the register. -/
def sh (x : Nat) : Nat := if x % 2 = 1 then (x / 2) ^^^ 3988292384 else x / 2
theorem xor_div (a b n : Nat) : (a ^^^ b) / 2 ^ n = a / 2 ^ n ^^^ b / 2 ^ n := by
  rw [← Nat.shiftRight_eq_div_pow, ← Nat.shiftRight_eq_div_pow, ← Nat.shiftRight_eq_div_pow, Nat.shiftRight_xor_distrib]
theorem xor_mod2 (a b : Nat) : (a ^^^ b) % 2 = (a % 2) ^^^ (b % 2) := Nat.xor_mod_two_pow (n := 1)
theorem sh_xor (a b : Nat) : sh (a ^^^ b) = sh a ^^^ sh b := by
  have hd : (a ^^^ b) / 2 = a / 2 ^^^ b / 2 := xor_div a b 1
  have hm := xor_mod2 a b
  unfold sh
  rw [hd, hm]
  rcases Nat.mod_two_eq_zero_or_one a with ha | ha <;> rcases Nat.mod_two_eq_zero_or_one b with hb | hb <;> rw [ha, hb]
  · simp
  · simp [Nat.xor_assoc]
  · simp [Nat.xor_assoc, Nat.xor_comm, xlc]
  · simp only [Nat.xor_self, Nat.zero_ne_one, if_false, if_true]
    rw [show (a / 2 ^^^ 3988292384) ^^^ (b / 2 ^^^ 3988292384) = (a / 2 ^^^ b / 2) ^^^ (3988292384 ^^^ 3988292384) by simp only [Nat.xor_assoc, Nat.xor_comm, xlc]]
    simp
theorem sh_lt {x : Nat} (h : x < 2 ^ 32) : sh x < 2 ^ 32 := by
  unfold sh
  split
  · exact Nat.xor_lt_two_pow (by omega) (by decide)
  · omega
theorem sh_two (y : Nat) : sh (2 * y) = y := by unfold sh; rw [if_neg (by omega)]; omega
theorem sh_ne {x : Nat} (h : x < 2 ^ 32) (h0 : x ≠ 0) : sh x ≠ 0 := by
  unfold sh
  split
  · intro he
    have : x / 2 = 3988292384 := by
      have h1 := congrArg (· ^^^ 3988292384) he
      simp only [Nat.xor_assoc, Nat.xor_self, Nat.xor_zero, Nat.zero_xor] at h1
      exact h1
    omega
  · omega

/-- n shifts. -/
def shn : Nat → Nat → Nat
  | 0, x => x
  | n + 1, x => shn n (sh x)
theorem shn_xor (n : Nat) : ∀ a b, shn n (a ^^^ b) = shn n a ^^^ shn n b := by
  induction n with
  | zero => intro a b; rfl
  | succ n ih => intro a b; show shn n (sh (a ^^^ b)) = _; rw [sh_xor, ih]; rfl
theorem shn_lt (n : Nat) : ∀ {x}, x < 2 ^ 32 → shn n x < 2 ^ 32 := by
  induction n with
  | zero => intro x h; exact h
  | succ n ih => intro x h; exact ih (sh_lt h)
theorem shn_ne (n : Nat) : ∀ {x}, x < 2 ^ 32 → x ≠ 0 → shn n x ≠ 0 := by
  induction n with
  | zero => intro x _ h; exact h
  | succ n ih => intro x h h0; exact ih (sh_lt h) (sh_ne h h0)
theorem shn_add (m n : Nat) : ∀ x, shn (m + n) x = shn n (shn m x) := by
  induction m with
  | zero => intro x; rw [Nat.zero_add]; rfl
  | succ m ih => intro x; rw [Nat.succ_add]; exact ih (sh x)
theorem shn_pow (n : Nat) : ∀ y, shn n (y * 2 ^ n) = y := by
  induction n with
  | zero => intro y; simp [shn]
  | succ n ih =>
    intro y
    show shn n (sh (y * 2 ^ (n + 1))) = y
    rw [show y * 2 ^ (n + 1) = 2 * (y * 2 ^ n) by rw [Nat.pow_succ, ← Nat.mul_assoc, Nat.mul_comm], sh_two, ih]
theorem split_xor (x n : Nat) : x / 2 ^ n * 2 ^ n ^^^ x % 2 ^ n = x := by
  apply Nat.eq_of_testBit_eq
  intro i
  rw [Nat.testBit_xor, Nat.testBit_mul_two_pow, Nat.testBit_div_two_pow, Nat.testBit_mod_two_pow]
  by_cases h : i < n
  · have : ¬ n ≤ i := by omega
    simp [h, this]
  · have h2 : n ≤ i := by omega
    simp [h, h2, Nat.sub_add_cancel h2]
theorem shn_split (n x : Nat) : shn n x = x / 2 ^ n ^^^ shn n (x % 2 ^ n) := by
  conv => lhs; rw [← split_xor x n, shn_xor, shn_pow]

/-- The register behind some bytes. -/
def crcStep (x b : Nat) : Nat := shn 8 (x ^^^ b)
def crcF (x : Nat) (l : List Nat) : Nat := l.foldl crcStep x
theorem crcF_snoc (x : Nat) (l : List Nat) (b : Nat) : crcF x (l ++ [b]) = crcStep (crcF x l) b := by unfold crcF; rw [List.foldl_append]; rfl
theorem crcF_append (x : Nat) (l m : List Nat) : crcF x (l ++ m) = crcF (crcF x l) m := by unfold crcF; rw [List.foldl_append]
theorem crcStep_lt {x b : Nat} (hx : x < 2 ^ 32) (hb : b < 256) : crcStep x b < 2 ^ 32 := shn_lt 8 (Nat.xor_lt_two_pow hx (by omega))
theorem crcF_lt : ∀ (l : List Nat) {x : Nat}, x < 2 ^ 32 → (∀ b ∈ l, b < 256) → crcF x l < 2 ^ 32
  | [], _, hx, _ => hx
  | b :: l, _, hx, h => crcF_lt l (crcStep_lt hx (h b (by simp))) (fun c hc => h c (by simp [hc]))
theorem xor4 (a b c d : Nat) : (a ^^^ b) ^^^ (c ^^^ d) = (a ^^^ c) ^^^ (b ^^^ d) := by simp only [Nat.xor_assoc, xlc b c d]
theorem crcStep_xor (x y a b : Nat) : crcStep (x ^^^ y) (a ^^^ b) = crcStep x a ^^^ crcStep y b := by unfold crcStep; rw [xor4, shn_xor]
/-- The xor of two lists. -/
def xl (l m : List Nat) : List Nat := List.zipWith (· ^^^ ·) l m
theorem crcF_xor : ∀ (l m : List Nat) (x y : Nat), l.length = m.length → crcF (x ^^^ y) (xl l m) = crcF x l ^^^ crcF y m
  | [], [], _, _, _ => rfl
  | a :: l, b :: m, x, y, h => by
    show crcF (crcStep (x ^^^ y) (a ^^^ b)) (xl l m) = crcF (crcStep x a) l ^^^ crcF (crcStep y b) m
    rw [crcStep_xor]
    exact crcF_xor l m _ _ (by simpa using h)
theorem crcStep_inj {x y b : Nat} (hx : x < 2 ^ 32) (hy : y < 2 ^ 32) (h : x ≠ y) : crcStep x b ≠ crcStep y b := by
  intro he
  have h1 : crcStep x b ^^^ crcStep y b = 0 := by rw [he, Nat.xor_self]
  rw [← crcStep_xor, Nat.xor_self] at h1
  refine shn_ne 8 (x := (x ^^^ y) ^^^ 0) (by rw [Nat.xor_zero]; exact Nat.xor_lt_two_pow hx hy) ?_ h1
  rw [Nat.xor_zero]
  intro h2
  apply h
  have h3 := congrArg (· ^^^ y) h2
  simp only [Nat.xor_assoc, Nat.xor_self, Nat.xor_zero, Nat.zero_xor] at h3
  exact h3
theorem crcF_inj : ∀ (l : List Nat) {x y : Nat}, x < 2 ^ 32 → y < 2 ^ 32 → (∀ b ∈ l, b < 256) → x ≠ y → crcF x l ≠ crcF y l
  | [], _, _, _, _, _, h => h
  | b :: l, _, _, hx, hy, hl, h => crcF_inj l (crcStep_lt hx (hl b (by simp))) (crcStep_lt hy (hl b (by simp))) (fun c hc => hl c (by simp [hc])) (crcStep_inj hx hy h)
/-- The check sum. -/
def crc (l : List Nat) : Nat := crcF 4294967295 l ^^^ 4294967295
theorem crc_lt {l : List Nat} (h : ∀ b ∈ l, b < 256) : crc l < 4294967296 := Nat.xor_lt_two_pow (crcF_lt l (by decide) h) (by decide)
theorem crc_xor3 (a b c : List Nat) (h1 : a.length = b.length) (h2 : b.length = c.length) : crc (xl (xl a b) c) = crc a ^^^ crc b ^^^ crc c := by
  unfold crc
  have hl : (xl a b).length = c.length := by unfold xl; rw [List.length_zipWith]; omega
  rw [show (4294967295 : Nat) = (4294967295 ^^^ 4294967295) ^^^ 4294967295 by decide]
  generalize hF : (4294967295 ^^^ 4294967295 ^^^ 4294967295 : Nat) = F
  have hF' : F = (F ^^^ F) ^^^ F := by simp
  conv => lhs; rw [show crcF F (xl (xl a b) c) = crcF ((F ^^^ F) ^^^ F) (xl (xl a b) c) by rw [← hF'], crcF_xor _ _ _ _ hl, crcF_xor _ _ _ _ h1]
  generalize crcF F a = x
  generalize crcF F b = y
  generalize crcF F c = z
  rw [show x ^^^ F ^^^ (y ^^^ F) ^^^ (z ^^^ F) = (x ^^^ y ^^^ z) ^^^ ((F ^^^ F) ^^^ F) by simp only [Nat.xor_comm, xlc], ← hF']

/-- The bytes of a number. -/
def byt (n V : Nat) : Nat := V / 256 ^ n % 256
theorem crcStep_low (x V : Nat) : shn 8 (x ^^^ V) = crcStep x (V % 256) ^^^ V / 256 := by
  unfold crcStep
  have h := split_xor V 8
  conv => lhs; rw [← h, show x ^^^ (V / 2 ^ 8 * 2 ^ 8 ^^^ V % 2 ^ 8) = V / 2 ^ 8 * 2 ^ 8 ^^^ (x ^^^ V % 2 ^ 8) by simp only [Nat.xor_comm, xlc], shn_xor, shn_pow]
  rw [Nat.xor_comm]
theorem crcF_five (V : Nat) (h : V < 2 ^ 40) : crcF 0 [byt 0 V, byt 1 V, byt 2 V, byt 3 V, byt 4 V] = shn 40 V := by
  have e : shn 40 V = shn 8 (shn 8 (shn 8 (shn 8 (shn 8 (0 ^^^ V))))) := by
    rw [Nat.zero_xor, ← shn_add, ← shn_add, ← shn_add, ← shn_add]
  rw [e, crcStep_low, crcStep_low, crcStep_low, crcStep_low, crcStep_low]
  have d1 : V / 256 / 256 = V / 256 ^ 2 := by rw [Nat.div_div_eq_div_mul]
  have d2 : V / 256 / 256 / 256 = V / 256 ^ 3 := by rw [d1, Nat.div_div_eq_div_mul]
  have d3 : V / 256 / 256 / 256 / 256 = V / 256 ^ 4 := by rw [d2, Nat.div_div_eq_div_mul]
  have d4 : V / 256 / 256 / 256 / 256 / 256 = 0 := by rw [d3, Nat.div_div_eq_div_mul]; omega
  rw [d4, Nat.xor_zero, d3, d2, d1]
  show _ = crcStep (crcStep (crcStep (crcStep (crcStep 0 (V % 256)) (V / 256 % 256)) (V / 256 ^ 2 % 256)) (V / 256 ^ 3 % 256)) (V / 256 ^ 4 % 256)
  unfold crcF byt
  simp
/-- A change within 32 neighbouring bits changes the check sum. -/
theorem crc_burst (p m q : List Nat) (c k : Nat) (hp : ∀ b ∈ p, b < 256) (hm : ∀ b ∈ m, b < 256) (hq : ∀ b ∈ q, b < 256) (hl : m.length = 5) (hc : c ≠ 0) (hc2 : c < 2 ^ 32) (hk : k ≤ 8) :
    crc (p ++ xl m [byt 0 (c * 2 ^ k), byt 1 (c * 2 ^ k), byt 2 (c * 2 ^ k), byt 3 (c * 2 ^ k), byt 4 (c * 2 ^ k)] ++ q) ≠ crc (p ++ m ++ q) := by
  have hV : c * 2 ^ k < 2 ^ 40 := by
    have : 2 ^ k ≤ 2 ^ 8 := Nat.pow_le_pow_right (by decide) hk
    calc c * 2 ^ k ≤ c * 2 ^ 8 := Nat.mul_le_mul_left _ this
      _ < 2 ^ 40 := by omega
  intro he
  unfold crc at he
  have he2 := congrArg (· ^^^ 4294967295) he
  simp only [Nat.xor_assoc, Nat.xor_self, Nat.xor_zero] at he2
  rw [crcF_append, crcF_append, crcF_append, crcF_append] at he2
  generalize hr : crcF 4294967295 p = r at he2
  have hr2 : r < 2 ^ 32 := by rw [← hr]; exact crcF_lt p (by decide) hp
  have h5 : crcF r (xl m [byt 0 (c * 2 ^ k), byt 1 (c * 2 ^ k), byt 2 (c * 2 ^ k), byt 3 (c * 2 ^ k), byt 4 (c * 2 ^ k)]) = crcF r m ^^^ shn 40 (c * 2 ^ k) := by
    have := crcF_xor m [byt 0 (c * 2 ^ k), byt 1 (c * 2 ^ k), byt 2 (c * 2 ^ k), byt 3 (c * 2 ^ k), byt 4 (c * 2 ^ k)] r 0 (by rw [hl]; rfl)
    rw [Nat.xor_zero] at this
    rw [this, crcF_five _ hV]
  have h6 : shn 40 (c * 2 ^ k) = shn (40 - k) c := by
    have := shn_add k (40 - k) (c * 2 ^ k)
    rw [shn_pow, Nat.add_sub_cancel' (by omega)] at this
    exact this
  have h7 : shn (40 - k) c ≠ 0 := shn_ne _ hc2 hc
  have h8 : shn (40 - k) c < 2 ^ 32 := shn_lt _ hc2
  rw [h5, h6] at he2
  have hrm : crcF r m < 2 ^ 32 := crcF_lt m hr2 hm
  refine crcF_inj q (Nat.xor_lt_two_pow hrm h8) hrm hq ?_ he2
  intro h9
  apply h7
  have h10 := congrArg (crcF r m ^^^ ·) h9
  simp only [← Nat.xor_assoc, Nat.xor_self, Nat.zero_xor] at h10
  exact h10

/-- What a table of four shifts holds. -/
theorem shn_tab (x : Nat) : shn 4 x = x / 16 ^^^ shn 4 (x % 16) := shn_split 4 x
end Go.Proofs.YtdnhecgjfanakaaDoor
