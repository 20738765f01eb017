/- What it says: plain mathematics of CRC-32: the register's step over one bit is linear and one to one; bytes put in one behind the other are one great number put in at the start. No program is named; no condition. -/
import Derived.Below
namespace Go.Proofs.YtlnhillpghjknaaDoor

def poly : Nat := 3988292384

/-- One bit more. -/
def stepBit (c : Nat) : Nat := if c % 2 = 1 then (c / 2) ^^^ poly else c / 2

/-- k bits more. -/
def steps : Nat → Nat → Nat
  | 0, c => c
  | k + 1, c => steps k (stepBit c)

theorem steps_add (j k c : Nat) : steps (j + k) c = steps k (steps j c) := by
  induction j generalizing c with
  | zero => rw [Nat.zero_add]; rfl
  | succ j ih => rw [Nat.add_right_comm]; exact ih (stepBit c)

theorem steps_succ (k c : Nat) : steps (k + 1) c = stepBit (steps k c) := by rw [steps_add k 1]; rfl

theorem xor_half (a b : Nat) : (a ^^^ b) / 2 = (a / 2) ^^^ (b / 2) := by
  apply Nat.eq_of_testBit_eq
  intro i
  simp [Nat.testBit_div_two]

theorem xor_low (a b : Nat) : (a ^^^ b) % 2 = (a % 2 + b % 2) % 2 := by
  have h := Nat.testBit_xor a b 0
  simp only [Nat.testBit_zero] at h
  rcases Nat.mod_two_eq_zero_or_one a with ha | ha <;> rcases Nat.mod_two_eq_zero_or_one b with hb | hb <;>
    rcases Nat.mod_two_eq_zero_or_one (a ^^^ b) with hc | hc <;> simp [ha, hb, hc] at h ⊢

theorem stepBit_xor (a b : Nat) : stepBit (a ^^^ b) = stepBit a ^^^ stepBit b := by
  unfold stepBit
  rw [xor_half, xor_low]
  rcases Nat.mod_two_eq_zero_or_one a with ha | ha <;> rcases Nat.mod_two_eq_zero_or_one b with hb | hb <;> simp [ha, hb]
  · rw [Nat.xor_assoc]
  · rw [Nat.xor_assoc, Nat.xor_assoc, Nat.xor_comm (b / 2)]
  · rw [Nat.xor_assoc, Nat.xor_comm (b / 2) poly, ← Nat.xor_assoc poly, Nat.xor_self, Nat.zero_xor]

theorem steps_xor (k a b : Nat) : steps k (a ^^^ b) = steps k a ^^^ steps k b := by
  induction k generalizing a b with
  | zero => rfl
  | succ k ih => rw [steps, stepBit_xor, ih]; rfl

theorem stepBit_zero : stepBit 0 = 0 := rfl
theorem steps_zero (k : Nat) : steps k 0 = 0 := by
  induction k with
  | zero => rfl
  | succ k ih => rw [steps, stepBit_zero, ih]

theorem stepBit_lt {c : Nat} (h : c < 4294967296) : stepBit c < 4294967296 := by
  unfold stepBit
  split
  · exact Nat.xor_lt_two_pow (n := 32) (by omega) (by decide)
  · omega

theorem steps_lt (k : Nat) {c : Nat} (h : c < 4294967296) : steps k c < 4294967296 := by
  induction k generalizing c with
  | zero => exact h
  | succ k ih => exact ih (stepBit_lt h)

theorem xor_eq_zero {a b : Nat} (h : a ^^^ b = 0) : a = b := by
  have : (a ^^^ b) ^^^ b = b := by rw [h, Nat.zero_xor]
  rwa [Nat.xor_assoc, Nat.xor_self, Nat.xor_zero] at this

theorem stepBit_ne {c : Nat} (h : c < 4294967296) (h0 : c ≠ 0) : stepBit c ≠ 0 := by
  unfold stepBit
  split
  · intro e
    have := xor_eq_zero e
    unfold poly at this
    omega
  · omega

theorem steps_ne (k : Nat) {c : Nat} (h : c < 4294967296) (h0 : c ≠ 0) : steps k c ≠ 0 := by
  induction k generalizing c with
  | zero => exact h0
  | succ k ih => exact ih (stepBit_lt h) (stepBit_ne h h0)

theorem steps_inj (k : Nat) {a b : Nat} (ha : a < 4294967296) (hb : b < 4294967296) (h : steps k a = steps k b) : a = b := by
  by_cases e : a ^^^ b = 0
  · exact xor_eq_zero e
  · exfalso
    refine steps_ne k (Nat.xor_lt_two_pow (n := 32) ha hb) e ?_
    rw [steps_xor, h, Nat.xor_self]

/-- What stands high up comes down. -/
theorem steps_shift (k c : Nat) : steps k (c * 2 ^ k) = c := by
  induction k with
  | zero => simp [steps]
  | succ k ih =>
    have e : c * 2 ^ (k + 1) = (c * 2 ^ k) * 2 := by rw [Nat.pow_succ, Nat.mul_assoc]
    rw [steps, stepBit, e, if_neg (by omega), Nat.mul_div_cancel _ (by decide), ih]

/-- Bytes as one number, the first one lowest. -/
def leN : List Int → Nat
  | [] => 0
  | x :: r => x.toNat + 256 * leN r

/-- A byte more. -/
def stepByte (c : Nat) (x : Int) : Nat := steps 8 (c ^^^ x.toNat)

/-- Bytes more. -/
def crcFrom (c : Nat) (l : List Int) : Nat := l.foldl stepByte c

theorem crcFrom_cons (c : Nat) (x : Int) (l : List Int) : crcFrom c (x :: l) = crcFrom (stepByte c x) l := rfl
theorem crcFrom_append (c : Nat) (l m : List Int) : crcFrom c (l ++ m) = crcFrom (crcFrom c l) m := by simp [crcFrom]
theorem crcFrom_snoc (c : Nat) (l : List Int) (x : Int) : crcFrom c (l ++ [x]) = stepByte (crcFrom c l) x := by simp [crcFrom]

theorem add_eq_xor (x n : Nat) (h : x < 256) : x + 256 * n = x ^^^ (n * 256) := by
  have e : n * 256 = n <<< 8 := by rw [Nat.shiftLeft_eq]
  rw [e, Nat.mul_comm]
  have h1 : n * 256 + x = n <<< 8 ||| x := by rw [← Nat.shiftLeft_add_eq_or_of_lt (by simpa using h) n, Nat.shiftLeft_eq]
  have h2 : (n <<< 8) ^^^ x = n <<< 8 ||| x := by
    apply Nat.eq_of_testBit_eq
    intro i
    simp only [Nat.testBit_xor, Nat.testBit_or, Nat.testBit_shiftLeft]
    by_cases hi : 8 ≤ i
    · have : x.testBit i = false := Nat.testBit_lt_two_pow (Nat.lt_of_lt_of_le h (by
        have : 2 ^ 8 ≤ 2 ^ i := Nat.pow_le_pow_right (by decide) hi
        simpa using this))
      simp [this]
    · simp [hi]
  rw [Nat.add_comm, h1, ← h2, Nat.xor_comm]

theorem crcFrom_num (l : List Int) (hr : ∀ x ∈ l, 0 ≤ x ∧ x < 256) (c : Nat) : crcFrom c l = steps (8 * l.length) (c ^^^ leN l) := by
  induction l generalizing c with
  | nil => simp [crcFrom, leN, steps]
  | cons x r ih =>
    have hx := hr x (by simp)
    rw [crcFrom_cons, ih (fun y hy => hr y (by simp [hy])), leN, add_eq_xor _ _ (by omega)]
    rw [List.length_cons, show 8 * (r.length + 1) = 8 + 8 * r.length from by omega, steps_add]
    congr 1
    rw [← Nat.xor_assoc, steps_xor 8 _ (leN r * 256), stepByte]
    congr 1
    exact (steps_shift 8 (leN r)).symm

def ones : Nat := 4294967295

/-- The checksum. -/
def crcL (l : List Int) : Nat := crcFrom ones l ^^^ ones

theorem crcFrom_lt (l : List Int) (hr : ∀ x ∈ l, 0 ≤ x ∧ x < 256) (c : Nat) (hc : c < 4294967296) : crcFrom c l < 4294967296 := by
  induction l generalizing c with
  | nil => exact hc
  | cons x r ih =>
    have hx := hr x (by simp)
    exact ih (fun y hy => hr y (by simp [hy])) _ (steps_lt 8 (Nat.xor_lt_two_pow (n := 32) hc (by omega)))

theorem crcL_lt (l : List Int) (hr : ∀ x ∈ l, 0 ≤ x ∧ x < 256) : crcL l < 4294967296 :=
  Nat.xor_lt_two_pow (n := 32) (crcFrom_lt l hr _ (by decide)) (by decide)

/-- Two checksums told by their texts' numbers. -/
theorem crcL_xor (l m : List Int) (hl : ∀ x ∈ l, 0 ≤ x ∧ x < 256) (hm : ∀ x ∈ m, 0 ≤ x ∧ x < 256) (he : l.length = m.length) : crcL l ^^^ crcL m = steps (8 * l.length) (leN l ^^^ leN m) := by
  unfold crcL
  rw [crcFrom_num l hl, crcFrom_num m hm, ← he, steps_xor, steps_xor, steps_xor]
  generalize steps (8 * l.length) ones = a
  generalize steps (8 * l.length) (leN l) = b
  generalize steps (8 * l.length) (leN m) = c
  apply Nat.eq_of_testBit_eq
  intro i
  simp only [Nat.testBit_xor]
  cases a.testBit i <;> cases b.testBit i <;> cases c.testBit i <;> cases ones.testBit i <;> rfl

/-- P2.4: where up to 32 neighbouring bits are other ones the checksum is another one. -/
theorem crc_turned (l m : List Int) (hl : ∀ x ∈ l, 0 ≤ x ∧ x < 256) (hm : ∀ x ∈ m, 0 ≤ x ∧ x < 256) (he : l.length = m.length) (at_ u : Nat) (hat : at_ ≤ 8 * l.length) (hu : u < 4294967296) (h : leN m = leN l ^^^ (u * 2 ^ at_)) : crcL l = crcL m ↔ u = 0 := by
  have e : leN l ^^^ leN m = u * 2 ^ at_ := by rw [h, ← Nat.xor_assoc, Nat.xor_self, Nat.zero_xor]
  have x := crcL_xor l m hl hm he
  rw [e, show 8 * l.length = at_ + (8 * l.length - at_) from by omega, steps_add, steps_shift] at x
  constructor
  · intro hc
    by_cases h0 : u = 0
    · exact h0
    · exfalso
      rw [hc, Nat.xor_self] at x
      exact steps_ne _ hu h0 x.symm
  · intro h0
    rw [h0, steps_zero] at x
    exact xor_eq_zero x

theorem leN_cons (x : Int) (r : List Int) (h : 0 ≤ x ∧ x < 256) : leN (x :: r) = x.toNat ^^^ (leN r * 256) := by
  rw [leN, add_eq_xor _ _ (by omega)]

theorem xor_mul256 (a b : Nat) : (a ^^^ b) * 256 = (a * 256) ^^^ (b * 256) := by
  have e : ∀ n : Nat, n * 256 = n <<< 8 := fun n => by rw [Nat.shiftLeft_eq]
  rw [e, e, e]
  apply Nat.eq_of_testBit_eq
  intro i
  simp only [Nat.testBit_xor, Nat.testBit_shiftLeft]
  by_cases h : 8 ≤ i <;> simp [h]

/-- One bit of one byte is turned. -/
theorem leN_turn (l : List Int) (hr : ∀ x ∈ l, 0 ≤ x ∧ x < 256) (j b : Nat) (hj : j < l.length) (hb : b < 8) :
    leN (l.set j (((l.getD j 0).toNat ^^^ 2 ^ b : Nat) : Int)) = leN l ^^^ 2 ^ (8 * j + b) := by
  have hpb : 2 ^ b < 256 := Nat.lt_of_le_of_lt (Nat.pow_le_pow_right (by decide) (show b ≤ 7 by omega)) (by decide)
  induction l generalizing j with
  | nil => simp at hj
  | cons x r ih =>
    have hx := hr x (by simp)
    have hr' : ∀ y ∈ r, 0 ≤ y ∧ y < 256 := fun y hy => hr y (by simp [hy])
    cases j with
    | zero =>
      have hlt : x.toNat ^^^ 2 ^ b < 256 := Nat.xor_lt_two_pow (n := 8) (by omega) hpb
      simp only [List.set_cons_zero, List.getD_cons_zero, Nat.mul_zero, Nat.zero_add]
      rw [leN_cons _ _ (by omega), leN_cons _ _ hx, Int.toNat_natCast, Nat.xor_assoc, Nat.xor_assoc, Nat.xor_comm (2 ^ b)]
    | succ j =>
      simp only [List.set_cons_succ, List.getD_cons_succ]
      rw [leN_cons _ _ hx, leN_cons _ _ hx, ih hr' j (by simpa using hj), xor_mul256, ← Nat.xor_assoc]
      congr 1
      rw [show 8 * (j + 1) + b = 8 * j + b + 8 from by omega, Nat.pow_add _ _ 8]

/-- P2.2: a text behind another one. -/
theorem crc_join (l m : List Int) (hm : ∀ x ∈ m, 0 ≤ x ∧ x < 256) : crcL (l ++ m) = steps (8 * m.length) (crcL l) ^^^ crcL m := by
  unfold crcL
  rw [crcFrom_append, crcFrom_num m hm, crcFrom_num m hm, steps_xor, steps_xor, steps_xor]
  generalize steps (8 * m.length) ones = a
  generalize steps (8 * m.length) (leN m) = b
  generalize steps (8 * m.length) (crcFrom ones l) = c
  apply Nat.eq_of_testBit_eq
  intro i
  simp only [Nat.testBit_xor]
  cases a.testBit i <;> cases b.testBit i <;> cases c.testBit i <;> cases ones.testBit i <;> rfl

/-- What stands below bit k, and what stands from it on. -/
theorem split_xor (k c : Nat) : (c % 2 ^ k) ^^^ (c / 2 ^ k * 2 ^ k) = c := by
  have e : c / 2 ^ k * 2 ^ k = (c >>> k) <<< k := by rw [Nat.shiftLeft_eq, Nat.shiftRight_eq_div_pow]
  rw [e]
  apply Nat.eq_of_testBit_eq
  intro i
  simp only [Nat.testBit_xor, Nat.testBit_mod_two_pow, Nat.testBit_shiftLeft, Nat.testBit_shiftRight]
  by_cases h : i < k
  · have h2 : ¬ k ≤ i := by omega
    simp [h, h2]
  · have h1 : k ≤ i := by omega
    have : k + (i - k) = i := by omega
    simp [h, h1, this]

/-- What the four lowest bits leave behind. -/
def nib : Nat → Nat
  | 0 => 0x00000000 | 1 => 0x1DB71064 | 2 => 0x3B6E20C8 | 3 => 0x26D930AC
  | 4 => 0x76DC4190 | 5 => 0x6B6B51F4 | 6 => 0x4DB26158 | 7 => 0x5005713C
  | 8 => 0xEDB88320 | 9 => 0xF00F9344 | 10 => 0xD6D6A3E8 | 11 => 0xCB61B38C
  | 12 => 0x9B64C2B0 | 13 => 0x86D3D2D4 | 14 => 0xA00AE278 | 15 => 0xBDBDF21C
  | _ => 0

theorem nib_steps (c : Nat) (h : c < 16) : steps 4 c = nib c := by
  have : c = 0 ∨ c = 1 ∨ c = 2 ∨ c = 3 ∨ c = 4 ∨ c = 5 ∨ c = 6 ∨ c = 7 ∨ c = 8 ∨ c = 9 ∨ c = 10 ∨ c = 11 ∨ c = 12 ∨ c = 13 ∨ c = 14 ∨ c = 15 := by omega
  rcases this with h | h | h | h | h | h | h | h | h | h | h | h | h | h | h | h <;> subst h <;> decide +kernel

theorem steps4 (c : Nat) : steps 4 c = (c / 16) ^^^ nib (c % 16) := by
  have e := split_xor 4 c
  have h16 : (2 : Nat) ^ 4 = 16 := rfl
  rw [h16] at e
  have : steps 4 c = steps 4 ((c % 16) ^^^ (c / 16 * 16)) := by rw [e]
  rw [this, steps_xor, nib_steps _ (Nat.mod_lt _ (by decide)), Nat.xor_comm]
  congr 1
  exact steps_shift 4 _

theorem steps8 (c : Nat) : steps 8 c = (steps 4 c / 16) ^^^ nib (steps 4 c % 16) := by
  rw [show (8 : Nat) = 4 + 4 from rfl, steps_add, steps4 (steps 4 c)]

/-- A register behind a linear change of which column i is m i: its first n bits. -/
def timesL (m : Nat → Nat) (c : Nat) : Nat → Nat
  | 0 => 0
  | n + 1 => if c / 2 ^ n % 2 = 1 then timesL m c n ^^^ m n else timesL m c n

theorem timesL_steps (k c : Nat) (n : Nat) : timesL (fun i => steps k (2 ^ i)) c n = steps k (c % 2 ^ n) := by
  induction n with
  | zero => simp [timesL, steps_zero, Nat.mod_one]
  | succ n ih =>
    rw [timesL, ih]
    have e := split_xor n (c % 2 ^ (n + 1))
    have e1 : c % 2 ^ (n + 1) % 2 ^ n = c % 2 ^ n := Nat.mod_mod_of_dvd _ ⟨2, by rw [Nat.pow_succ]⟩
    have e2 : c % 2 ^ (n + 1) / 2 ^ n = c / 2 ^ n % 2 := by rw [Nat.pow_succ, Nat.mod_mul_right_div_self]
    rw [e1, e2] at e
    rw [← e, steps_xor]
    split
    · rename_i h
      rw [h, Nat.one_mul]
    · rename_i h
      rw [show c / 2 ^ n % 2 = 0 from by omega, Nat.zero_mul, steps_zero, Nat.xor_zero]

theorem timesL_congr (m m' : Nat → Nat) (c n : Nat) (h : ∀ i, i < n → m i = m' i) : timesL m c n = timesL m' c n := by
  induction n with
  | zero => rfl
  | succ n ih => rw [timesL, timesL, ih (fun i hi => h i (by omega)), h n (by omega)]

theorem timesL_all (k c : Nat) (hc : c < 4294967296) (m : Nat → Nat) (h : ∀ i, i < 32 → m i = steps k (2 ^ i)) : timesL m c 32 = steps k c := by
  rw [timesL_congr m (fun i => steps k (2 ^ i)) c 32 h, timesL_steps, Nat.mod_eq_of_lt (by simpa using hc)]

/-- One bit back. -/
def unstep (r : Nat) : Nat := if r / 2147483648 = 1 then (r ^^^ poly) * 2 + 1 else r * 2

theorem xor_poly_lt (r : Nat) (_h : r < 4294967296) (h1 : r / 2147483648 = 1) : (r ^^^ poly) < 2147483648 := by
  have h31 : (r ^^^ poly) / 2147483648 = 0 := by
    have e : ∀ x : Nat, x / 2147483648 = x >>> 31 := fun x => by rw [Nat.shiftRight_eq_div_pow]
    rw [e, Nat.shiftRight_xor_distrib, ← e, ← e, h1]
    rfl
  omega

theorem unstep_lt (r : Nat) (h : r < 4294967296) : unstep r < 4294967296 := by
  unfold unstep
  split
  · rename_i h1
    have := xor_poly_lt r h h1
    omega
  · omega

theorem step_unstep (r : Nat) (_h : r < 4294967296) : stepBit (unstep r) = r := by
  unfold unstep
  split
  · rename_i h1
    rw [stepBit, if_pos (by omega), show ((r ^^^ poly) * 2 + 1) / 2 = r ^^^ poly from by omega, Nat.xor_assoc, Nat.xor_self, Nat.xor_zero]
  · rw [stepBit, if_neg (by omega)]
    omega

/-- k bits back. -/
def unsteps : Nat → Nat → Nat
  | 0, r => r
  | k + 1, r => unstep (unsteps k r)

theorem unsteps_lt (k r : Nat) (h : r < 4294967296) : unsteps k r < 4294967296 := by
  induction k with
  | zero => exact h
  | succ k ih => exact unstep_lt _ ih

theorem steps_unsteps (k r : Nat) (h : r < 4294967296) : steps k (unsteps k r) = r := by
  induction k with
  | zero => rfl
  | succ k ih => rw [steps, unsteps, step_unstep _ (unsteps_lt k r h), ih]

/-- The four bytes of a word, the lowest one first. -/
def le4 (x : Nat) : List Int := [((x % 256 : Nat) : Int), ((x / 256 % 256 : Nat) : Int), ((x / 65536 % 256 : Nat) : Int), ((x / 16777216 % 256 : Nat) : Int)]

theorem le4_rng (x : Nat) : ∀ y ∈ le4 x, 0 ≤ y ∧ y < 256 := by
  intro y hy
  simp only [le4, List.mem_cons, List.not_mem_nil, or_false] at hy
  rcases hy with h | h | h | h <;> subst h <;> omega

theorem leN_le4 (x : Nat) (h : x < 4294967296) : leN (le4 x) = x := by
  simp only [le4, leN, Int.toNat_natCast]
  omega

/-- P2.3: the four bytes that make the register what it was wanted to be. -/
theorem crc_patched (l : List Int) (hl : ∀ x ∈ l, 0 ≤ x ∧ x < 256) (want : Nat) (hw : want < 4294967296) :
    crcL (l ++ le4 ((crcL l ^^^ ones) ^^^ unsteps 32 (want ^^^ ones))) = want := by
  have hx : want ^^^ ones < 4294967296 := Nat.xor_lt_two_pow (n := 32) hw (by decide)
  have hu := unsteps_lt 32 _ hx
  have hc : crcL l ^^^ ones = crcFrom ones l := by unfold crcL; rw [Nat.xor_assoc, Nat.xor_self, Nat.xor_zero]
  rw [hc]
  have hlt := crcFrom_lt l hl ones (by decide)
  have hp : crcFrom ones l ^^^ unsteps 32 (want ^^^ ones) < 4294967296 := Nat.xor_lt_two_pow (n := 32) hlt hu
  unfold crcL
  rw [crcFrom_append, crcFrom_num _ (le4_rng _), leN_le4 _ hp, ← Nat.xor_assoc, Nat.xor_self, Nat.zero_xor]
  rw [show 8 * (le4 (crcFrom ones l ^^^ unsteps 32 (want ^^^ ones))).length = 32 from rfl, steps_unsteps _ _ hx, Nat.xor_assoc, Nat.xor_self, Nat.xor_zero]

theorem crcL_nil : crcL [] = 0 := by decide +kernel
theorem crcL_awake : crcL [49, 50, 51, 52, 53, 54, 55, 56, 57] = 3421780262 := by decide +kernel

end Go.Proofs.YtlnhillpghjknaaDoor
