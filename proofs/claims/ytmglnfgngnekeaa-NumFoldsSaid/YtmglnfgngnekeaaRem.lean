/- What it says: math/bits.Rem64 answers the rest of two words divided by one, for every divisor but nought. -/
import Derived.Test.YtmglnfgngnekeaaDiv
import Derived.Lib.ItoaNum
namespace Go.Proofs.Ytmglnfgngnekeaa
open Go.RowKit

theorem bitLen_bounds (y : Nat) (h0 : 0 < y) (hy : y < 18446744073709551616) : 1 ≤ Lib.bitLen y ∧ Lib.bitLen y ≤ 64 ∧ 2 ^ (Lib.bitLen y - 1) ≤ y ∧ y < 2 ^ Lib.bitLen y := by
  obtain ⟨h1, h2, h3⟩ := Lib.bitLenAux_bounds 64 y hy (by omega)
  exact ⟨h1, Lib.bitLen_le y 64 (Nat.le_refl _) hy, h2, h3⟩

theorem and_low (x : Nat) (hx : x < 18446744073709551616) : bits .and .u64 (x : Int) 4294967295 = ((x % 4294967296 : Nat) : Int) := by
  have := u64_and_nat x 4294967295 hx (by omega)
  have e : x &&& 4294967295 = x % 4294967296 := Nat.and_two_pow_sub_one_eq_mod x 32
  rw [e] at this
  exact this

/-- The words as the program shifts them. -/
theorem shifted (hi lo y s : Nat) (hs : s ≤ 63) (hhy : hi < y) (hl : lo < 18446744073709551616) :
    lo / 2 ^ (64 - s) = lo * 2 ^ s / 18446744073709551616 ∧ lo * 2 ^ s / 18446744073709551616 < 2 ^ s ∧ hi * 2 ^ s + lo * 2 ^ s / 18446744073709551616 < y * 2 ^ s ∧
      (hi * 2 ^ s + lo * 2 ^ s / 18446744073709551616) * 18446744073709551616 + lo * 2 ^ s % 18446744073709551616 = (hi * 18446744073709551616 + lo) * 2 ^ s := by
  have e64 : (18446744073709551616 : Nat) = 2 ^ (64 - s) * 2 ^ s := by rw [← Nat.pow_add, show 64 - s + s = 64 from by omega]
  have hp : 0 < 2 ^ s := Nat.pow_pos (by decide)
  have h1 : lo / 2 ^ (64 - s) = lo * 2 ^ s / 18446744073709551616 := by rw [e64, Nat.mul_div_mul_right _ _ hp]
  have h2 : lo * 2 ^ s / 18446744073709551616 < 2 ^ s := by
    rw [Nat.div_lt_iff_lt_mul (by omega), Nat.mul_comm (2 ^ s)]
    exact Nat.mul_lt_mul_of_pos_right hl hp
  refine ⟨h1, h2, ?_, ?_⟩
  · have : (hi + 1) * 2 ^ s ≤ y * 2 ^ s := Nat.mul_le_mul_right _ hhy
    rw [Nat.add_mul, Nat.one_mul] at this
    omega
  · have := Nat.div_add_mod (lo * 2 ^ s) 18446744073709551616
    rw [Nat.add_mul, Nat.add_mul, Nat.mul_right_comm]
    omega

theorem or_join (H L s : Nat) (hH : H < 18446744073709551616) (hL : L < 2 ^ s) (hs : s ≤ 63) (hm : H % 2 ^ s = 0) : bits .or .u64 (H : Int) (L : Int) = ((H + L : Nat) : Int) := by
  have h64 : (2 : Nat) ^ s ≤ 2 ^ 63 := Nat.pow_le_pow_right (by decide) hs
  rw [u64_or_nat _ _ hH (by omega), nat_join s H L hm hL]

theorem wrap_back (U v Q Y R : Nat) (h : Q * Y + R = U * 4294967296 + v) (hR : R < 18446744073709551616) :
    IntKind.u64.wrap (IntKind.u64.wrap (IntKind.u64.wrap ((U : Int) * 4294967296) + (v : Int)) - IntKind.u64.wrap ((Q : Int) * (Y : Int))) = (R : Int) := by
  have h' : (Q : Int) * (Y : Int) + (R : Int) = (U : Int) * 4294967296 + (v : Int) := by
    have := congrArg (Nat.cast (R := Int)) h
    simpa using this
  simp only [IntKind.wrap_u64]
  generalize (Q : Int) * (Y : Int) = P at h' ⊢
  omega

theorem div_pos (hi lo y : Nat) (hh : 0 < hi) (hhy : hi < y) (hl : lo < 18446744073709551616) (hy : y < 18446744073709551616) (w : World) :
    Calls Try.prog 30 #[.int .u64 hi, .int .u64 lo, .int .u64 y] w (DivPost (((hi * 18446744073709551616 + lo) % y : Nat) : Int) w) := by
  obtain ⟨l1, l2, l3, l4⟩ := bitLen_bounds y (by omega) hy
  obtain ⟨s, hs⟩ : ∃ s, s = 64 - Lib.bitLen y := ⟨_, rfl⟩
  have hs63 : s ≤ 63 := by omega
  obtain ⟨c1, c2, c3, c4⟩ := shifted hi lo y s hs63 hhy hl
  have hp : 0 < 2 ^ s := Nat.pow_pos (by decide)
  obtain ⟨p, ep⟩ : ∃ p, p = 2 ^ s := ⟨_, rfl⟩
  have Y1 : 9223372036854775808 ≤ y * 2 ^ s := by
    have h1 : 2 ^ (Lib.bitLen y - 1) * 2 ^ s ≤ y * 2 ^ s := Nat.mul_le_mul_right _ l3
    rw [← Nat.pow_add, show Lib.bitLen y - 1 + s = 63 from by omega] at h1
    exact h1
  have Y2 : y * 2 ^ s < 18446744073709551616 := by
    have h1 : y * 2 ^ s < 2 ^ Lib.bitLen y * 2 ^ s := Nat.mul_lt_mul_of_pos_right l4 hp
    rw [← Nat.pow_add, show Lib.bitLen y + s = 64 from by omega] at h1
    exact h1
  have HY : hi * 2 ^ s < y * 2 ^ s := Nat.mul_lt_mul_of_pos_right hhy hp
  have pI : ∀ x : Nat, (x : Int) * 2 ^ s = ((x * 2 ^ s : Nat) : Int) := fun x => by simp
  obtain ⟨Y, eY⟩ : ∃ Y, Y = y * 2 ^ s := ⟨_, rfl⟩
  obtain ⟨H, eH⟩ : ∃ H, H = hi * 2 ^ s := ⟨_, rfl⟩
  obtain ⟨T, eT⟩ : ∃ T, T = lo * 2 ^ s := ⟨_, rfl⟩
  obtain ⟨L, eL⟩ : ∃ L, L = T / 18446744073709551616 := ⟨_, rfl⟩
  obtain ⟨U, eU⟩ : ∃ U, U = H + L := ⟨_, rfl⟩
  obtain ⟨V, eV⟩ : ∃ V, V = T % 18446744073709551616 := ⟨_, rfl⟩
  rw [← eY] at Y1 Y2 HY c3
  rw [← eH] at HY c3 c4
  rw [← eT] at c1 c2 c3 c4
  rw [← eL] at c1 c2 c3 c4
  rw [← eV] at c4
  rw [← eU] at c3 c4
  obtain ⟨a, ea⟩ : ∃ a, a = Y / 4294967296 := ⟨_, rfl⟩
  obtain ⟨b, eb⟩ : ∃ b, b = Y % 4294967296 := ⟨_, rfl⟩
  obtain ⟨v1, ev1⟩ : ∃ v1, v1 = V / 4294967296 := ⟨_, rfl⟩
  obtain ⟨v0, ev0⟩ : ∃ v0, v0 = V % 4294967296 := ⟨_, rfl⟩
  have hab : Y = a * 4294967296 + b := by omega
  have a1 : 2147483648 ≤ a := by omega
  have a2 : a < 4294967296 := by omega
  have b2 : b < 4294967296 := by omega
  have v1b : v1 < 4294967296 := by omega
  have v0b : v0 < 4294967296 := by omega
  have hYp : 0 < Y := by omega
  have hVs : v1 * 4294967296 + v0 = V := by rw [ev1, ev0, Nat.mul_comm]; exact Nat.div_add_mod V 4294967296
  have gen : ∀ W v, W < Y → v < 4294967296 → ∃ q p Q R : Nat, (W : Int) / (a : Int) = (q : Int) ∧ (q : Int) * (a : Int) = (p : Int) ∧ p ≤ W ∧ q ≤ 4294967297 ∧ Hid (Guess a b W v Q q (W - p)) ∧ Hid (Q = (W * 4294967296 + v) / (a * 4294967296 + b)) ∧ Q < 4294967296 ∧
      IntKind.u64.wrap (IntKind.u64.wrap (IntKind.u64.wrap ((W : Int) * 4294967296) + (v : Int)) - IntKind.u64.wrap ((Q : Int) * (Y : Int))) = (R : Int) ∧ R < Y ∧ R = (W * 4294967296 + v) % Y := by
    intro W v hW hv
    obtain ⟨d1, d2, d3⟩ := digit_left W v Y hYp
    have G := Guess.start a1 a2 b2 (U := W) (v := v) (by omega) hv
    have hWp : W / a * a ≤ W := Nat.div_mul_le_self W a
    have hmod : W - W / a * a = W % a := by have := Nat.div_add_mod W a; rw [Nat.mul_comm] at this; omega
    refine ⟨W / a, W / a * a, (W * 4294967296 + v) / (a * 4294967296 + b), (W * 4294967296 + v) % Y, by simp, by simp, hWp, G.high, ?_, rfl, digit_lt (by omega) hv, ?_, d3, rfl⟩
    · rw [hmod]; exact G
    · refine wrap_back W v _ Y _ ?_ (by omega)
      rw [← hab]
      omega
  obtain ⟨q0, p0, Q1, R1, x1, x2, x3, x4, x5, x6, x7, x8, x9, x10⟩ := gen U v1 c3 v1b
  obtain ⟨q2, p2, Q2, R2, z1, z2, z3, z4, z5, z6, z7, z8, z9, z10⟩ := gen R1 v0 x9 v0b
  have hUH : H < 18446744073709551616 := by omega
  have D0 := div_main hi lo y s Y H T a b L U V v1 v0 q0 p0 Q1 R1 q2 p2 Q2 R2 hh hhy hl hy w (by show (64 - (Lib.bitLen (y : Int).toNat : Int)) = (s : Int); rw [Int.toNat_natCast]; omega) hs63
    (by rw [pI, eY]) (by omega) Y2 (by rw [pI, eH]) HY (by rw [pI, eT])
    (by rw [ea]; simp) (by rw [and_low Y Y2, eb]) (by rw [← c1]; simp) (by rw [or_join H L s hUH c2 hs63 (by rw [eH]; exact Nat.mul_mod_left _ _), eU]) (by rw [IntKind.wrap_u64, eV]; simp)
    (by rw [ev1]; simp) (by rw [and_low V (by omega), ev0]) a1 a2 b2 c3 v1b v0b x1 x2 x3 x4 x5 x6 x7 x8 x9 z1 z2 z3 z4 z5 z6 z7 z8 z9
  have D := Lib.hid D0
  clear D0
  have e1 : R2 = ((hi * 18446744073709551616 + lo) * 2 ^ s) % (y * 2 ^ s) := by
    rw [z10, x10, two_digits, hVs, c4, ← eY]
  have e2 : (R2 : Int) / 2 ^ s = (((hi * 18446744073709551616 + lo) % y : Nat) : Int) := by
    rw [← shift_back (hi * 18446744073709551616 + lo) y (2 ^ s) hp, ← e1]
    simp
  rw [← e2]
  exact D.out

theorem div_any (hi lo y : Nat) (hhy : hi < y) (hl : lo < 18446744073709551616) (hy : y < 18446744073709551616) (w : World) :
    Calls Try.prog 30 #[.int .u64 hi, .int .u64 lo, .int .u64 y] w (DivPost (((hi * 18446744073709551616 + lo) % y : Nat) : Int) w) := by
  by_cases h0 : hi = 0
  · subst h0
    have := div_zero lo y hl hhy hy w
    rw [Nat.zero_mul, Nat.zero_add]
    exact this
  · exact div_pos hi lo y (by omega) hhy hl hy w

set_option maxHeartbeats 1000000 in
theorem rem_any (hi lo y : Nat) (hh : hi < 18446744073709551616) (hl : lo < 18446744073709551616) (h0 : 0 < y) (hy : y < 18446744073709551616) (w : World) :
    Calls Try.prog 27 #[.int .u64 hi, .int .u64 lo, .int .u64 y] w (Quiet (.int .u64 (((hi * 18446744073709551616 + lo) % y : Nat) : Int)) w) := by
  have e : (hi * 18446744073709551616 + lo) % y = ((hi % y) * 18446744073709551616 + lo) % y := by
    rw [Nat.add_mod, Nat.mul_mod, ← Nat.mod_mod hi y, ← Nat.mul_mod, ← Nat.add_mod, Nat.mod_mod]
  have D := Lib.hid (fun w => div_any (hi % y) lo y (Nat.mod_lt _ h0) hl hy w)
  rw [e]
  clear e
  obtain ⟨r, er⟩ : ∃ r : Nat, r = ((hi % y) * 18446744073709551616 + lo) % y := ⟨_, rfl⟩
  rw [← er]
  have D' : Hid (∀ w, Calls Try.prog 30 #[.int .u64 ((hi % y : Nat) : Int), .int .u64 lo, .int .u64 y] w (DivPost (r : Int) w)) := by
    intro w
    rw [er]
    exact D.out w
  clear D er
  obtain ⟨m, em⟩ : ∃ m : Nat, hi % y = m := ⟨_, rfl⟩
  rw [em] at D'
  have hm : (hi : Int) % (y : Int) = (m : Int) := by rw [← em]; simp
  have y0 : ((y : Int) == 0) = false := by simp; omega
  have ypos : (0 : Int) < (y : Int) := by omega
  clear em
  go_enter Try.func27, Try.ntmps27
  go_wp2_with fail
  refine (D'.out _).mono ?_
  rintro e w1 ⟨q, rfl, k, rfl⟩
  go_wp2_with fail
  go_ret
  exact ⟨rfl, _, rfl⟩
end Go.Proofs.Ytmglnfgngnekeaa
