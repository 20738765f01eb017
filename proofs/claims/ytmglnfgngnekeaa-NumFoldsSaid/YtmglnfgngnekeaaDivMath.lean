/- What it says: plain mathematics of a division of two words by one (Knuth's algorithm D at two digits). No program is named; no condition. -/
import Derived.Below
namespace Go.Proofs.Ytmglnfgngnekeaa

/-- One digit's guess q with its rest r, for the true digit Q. -/
structure Guess (a b U v Q q r : Nat) : Prop where
  sum : q * a + r = U
  low : Q ≤ q
  high : q ≤ 4294967297
  rest : r < 4294967296

section
variable {a b U v : Nat}

theorem digit_lt (hU : U < a * 4294967296 + b) (hv : v < 4294967296) : (U * 4294967296 + v) / (a * 4294967296 + b) < 4294967296 := by
  have hp : 0 < a * 4294967296 + b := by omega
  rw [Nat.div_lt_iff_lt_mul hp]
  have : (U + 1) * 4294967296 ≤ (a * 4294967296 + b) * 4294967296 := Nat.mul_le_mul_right _ (by omega)
  rw [Nat.mul_comm 4294967296]
  omega

/-- The first guess. -/
theorem Guess.start (ha : 2147483648 ≤ a) (ha2 : a < 4294967296) (hb : b < 4294967296) (hU : U < a * 4294967296 + b) (hv : v < 4294967296) : Guess a b U v ((U * 4294967296 + v) / (a * 4294967296 + b)) (U / a) (U % a) := by
  have h0 : 0 < a := by omega
  refine ⟨by rw [Nat.mul_comm]; exact Nat.div_add_mod U a, ?_, ?_, by have := Nat.mod_lt U h0; omega⟩
  · rw [Nat.le_div_iff_mul_le h0]
    have h1 := Nat.div_mul_le_self (U * 4294967296 + v) (a * 4294967296 + b)
    rw [Nat.mul_add, ← Nat.mul_assoc] at h1
    omega
  · have h1 : U < 4294967298 * a := by omega
    have := (Nat.div_lt_iff_lt_mul h0).2 h1
    omega

theorem Guess.exact {Q q r : Nat} (h : Guess a b U v Q q r) (hQ : Q = (U * 4294967296 + v) / (a * 4294967296 + b)) (hp : 0 < a * 4294967296 + b) (hle : q * b ≤ 4294967296 * r + v) : q = Q := by
  have h1 : q ≤ Q := by
    rw [hQ, Nat.le_div_iff_mul_le hp, Nat.mul_add, ← Nat.mul_assoc]
    have := h.sum
    have e : U * 4294967296 = (q * a) * 4294967296 + r * 4294967296 := by rw [← this, Nat.add_mul]
    omega
  have := h.low
  omega

/-- The guess is too great: one less. -/
theorem Guess.less {Q q r : Nat} (h : Guess a b U v Q q r) (hQ : Q = (U * 4294967296 + v) / (a * 4294967296 + b)) (hp : 0 < a * 4294967296 + b) (hQ2 : Q < 4294967296) (hc : 4294967296 ≤ q ∨ 4294967296 * r + v < q * b) :
    1 ≤ q ∧ Q ≤ q - 1 ∧ (q - 1) * a + (r + a) = U ∧ q - 1 ≤ 4294967296 := by
  have hh := h.high
  have hlt : Q < q := by
    rcases hc with hc | hc
    · omega
    · rw [hQ, Nat.div_lt_iff_lt_mul hp, Nat.mul_add, ← Nat.mul_assoc]
      have := h.sum
      have e : U * 4294967296 = (q * a) * 4294967296 + r * 4294967296 := by rw [← this, Nat.add_mul]
      omega
  refine ⟨by omega, by omega, ?_, by omega⟩
  have := h.sum
  obtain ⟨k, rfl⟩ : ∃ k, q = k + 1 := ⟨q - 1, by omega⟩
  rw [Nat.add_sub_cancel]
  rw [Nat.add_mul, Nat.one_mul] at this
  omega

/-- The rest is a whole digit: no more to do. -/
theorem Guess.done {Q q r : Nat} (hb : b < 4294967296) (hs : q * a + r = U) (hlo : Q ≤ q) (hq : q ≤ 4294967296) (hr : 4294967296 ≤ r) (hQ : Q = (U * 4294967296 + v) / (a * 4294967296 + b)) (hp : 0 < a * 4294967296 + b) : q = Q := by
  have h1 : q ≤ Q := by
    rw [hQ, Nat.le_div_iff_mul_le hp, Nat.mul_add, ← Nat.mul_assoc]
    have e : U * 4294967296 = (q * a) * 4294967296 + r * 4294967296 := by rw [← hs, Nat.add_mul]
    have h2 : q * b ≤ 4294967296 * b := Nat.mul_le_mul_right _ hq
    have h3 : 4294967296 * b ≤ 4294967296 * 4294967296 := Nat.mul_le_mul_left _ (by omega)
    have h4 : 4294967296 * 4294967296 ≤ r * 4294967296 := Nat.mul_le_mul_right _ hr
    omega
  omega
end

/-- What is left behind a digit. -/
theorem digit_left (U v Y : Nat) (hY : 0 < Y) : (U * 4294967296 + v) - (U * 4294967296 + v) / Y * Y = (U * 4294967296 + v) % Y ∧ (U * 4294967296 + v) / Y * Y ≤ U * 4294967296 + v ∧ (U * 4294967296 + v) % Y < Y := by
  have h1 := Nat.div_add_mod (U * 4294967296 + v) Y
  rw [Nat.mul_comm] at h1
  exact ⟨by omega, by omega, Nat.mod_lt _ hY⟩

/-- Two digits behind one another: the rest of the whole. -/
theorem two_digits (U v1 v0 Y : Nat) : ((U * 4294967296 + v1) % Y * 4294967296 + v0) % Y = (U * 18446744073709551616 + (v1 * 4294967296 + v0)) % Y := by
  have e : U * 18446744073709551616 + (v1 * 4294967296 + v0) = (U * 4294967296 + v1) * 4294967296 + v0 := by omega
  rw [e, Nat.add_mod, Nat.mul_mod, Nat.mod_mod, ← Nat.mul_mod, ← Nat.add_mod]

/-- The rest of shifted numbers, shifted back. -/
theorem shift_back (N y p : Nat) (hp : 0 < p) : (N * p) % (y * p) / p = N % y := by
  rw [Nat.mul_mod_mul_right, Nat.mul_div_cancel _ hp]

end Go.Proofs.Ytmglnfgngnekeaa
