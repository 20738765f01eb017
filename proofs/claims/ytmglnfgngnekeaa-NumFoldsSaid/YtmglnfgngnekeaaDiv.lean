/- What it says: math/bits.Div64 answers the remainder. -/
import Derived.Test.YtmglnfgngnekeaaBits
import Derived.Test.YtmglnfgngnekeaaDivMath
import Derived.Test.YtmglnfgngnekeaaKit
import Derived.Deep.QuietTactic
import Derived.BigQuiet
import Derived.Deep.DeepCutAuto
import Derived.Deep.CutBlock
namespace Go.Proofs.Ytmglnfgngnekeaa
open Go.RowKit

/-- A quotient and the remainder r; at most a draw. -/
def DivPost (r : Int) (w : World) (e : Ending) (w' : World) : Prop := ∃ q : Int, e = .returned (.tuple #[.int .u64 q, .int .u64 r]) ∧ ∃ k, w' = w.drewN k

set_option maxHeartbeats 1000000 in
theorem div_zero (lo y : Nat) (hl : lo < 18446744073709551616) (h0 : 0 < y) (hy : y < 18446744073709551616) (w : World) :
    Calls Try.prog 30 #[.int .u64 0, .int .u64 lo, .int .u64 y] w (DivPost ((lo % y : Nat) : Int) w) := by
  have hy0 : (0 : Int) < (y : Int) := by omega
  go_enter Try.func30, Try.ntmps30
  go_wp2
  go_quiet (fail)
  go_wp2
  go_ret2
  exact ⟨_, rfl, _, rfl⟩

set_option maxHeartbeats 8000000 in
theorem div_main (hi lo y s Y H T a b L U V v1 v0 q0 p0 Q1 R1 q2 p2 Q2 R2 : Nat) (hh : 0 < hi) (hhy : hi < y) (_hl : lo < 18446744073709551616) (hy : y < 18446744073709551616) (w : World)
    (hs : Hid ((64 - (Lib.bitLen (y : Int).toNat : Int)) = (s : Int))) (hs1 : s ≤ 63) (hY : (y : Int) * 2 ^ s = (Y : Int)) (hY1 : 9223372036854775808 ≤ (Y : Int)) (hY2 : Y < 18446744073709551616) (hH : (hi : Int) * 2 ^ s = (H : Int)) (hHY : H < Y) (hT : (lo : Int) * 2 ^ s = (T : Int))
    (ha : (Y : Int) / 4294967296 = (a : Int)) (hb : bits .and .u64 (Y : Int) 4294967295 = (b : Int)) (hL : (lo : Int) / 2 ^ (64 - s) = (L : Int)) (hU : bits .or .u64 (H : Int) (L : Int) = (U : Int)) (hV : IntKind.u64.wrap (T : Int) = (V : Int))
    (hv1 : (V : Int) / 4294967296 = (v1 : Int)) (hv0 : bits .and .u64 (V : Int) 4294967295 = (v0 : Int))
    (a1 : 2147483648 ≤ a) (a2 : a < 4294967296) (b2 : b < 4294967296) (hUY : U < Y) (v1b : v1 < 4294967296) (v0b : v0 < 4294967296)
    (hq0 : (U : Int) / (a : Int) = (q0 : Int)) (hp0 : (q0 : Int) * (a : Int) = (p0 : Int)) (hpU : p0 ≤ U) (hq1 : q0 ≤ 4294967297)
    (G1 : Hid (Guess a b U v1 Q1 q0 (U - p0))) (hQ1 : Hid (Q1 = (U * 4294967296 + v1) / (a * 4294967296 + b))) (hQ1b : Q1 < 4294967296)
    (hR1 : IntKind.u64.wrap (IntKind.u64.wrap (IntKind.u64.wrap ((U : Int) * 4294967296) + (v1 : Int)) - IntKind.u64.wrap ((Q1 : Int) * (Y : Int))) = (R1 : Int)) (hR1Y : R1 < Y)
    (hq2 : (R1 : Int) / (a : Int) = (q2 : Int)) (hp2 : (q2 : Int) * (a : Int) = (p2 : Int)) (hpR : p2 ≤ R1) (hq3 : q2 ≤ 4294967297)
    (G2 : Hid (Guess a b R1 v0 Q2 q2 (R1 - p2))) (hQ2 : Hid (Q2 = (R1 * 4294967296 + v0) / (a * 4294967296 + b))) (hQ2b : Q2 < 4294967296)
    (hR2 : IntKind.u64.wrap (IntKind.u64.wrap (IntKind.u64.wrap ((R1 : Int) * 4294967296) + (v0 : Int)) - IntKind.u64.wrap ((Q2 : Int) * (Y : Int))) = (R2 : Int)) (_hR2Y : R2 < Y) :
    Calls Try.prog 30 #[.int .u64 hi, .int .u64 lo, .int .u64 y] w (DivPost ((R2 : Int) / 2 ^ s) w) := by
  have y0 : ((y : Int) == 0) = false := by simp; omega
  have h0 : ((hi : Int) == 0) = false := by simp; omega
  have hle : ¬ y ≤ hi := by omega
  have a0 : ((a : Int) == 0) = false := by simp; omega
  have apos : (0 : Int) < (a : Int) := by omega
  go_enter Try.func30, Try.ntmps30
  go_wp2_with fail
  refine (lz64 _ _ (by omega) (by omega)).mono ?_
  rintro e w1 ⟨rfl, rfl⟩
  rw [hs.out]
  go_upto_block 0 with (fail)
  go_cut [15, 16] (fun q _ wx => q = .int .u64 Q1 ∧ wx = w1)
  case first =>
    go_wp2_with fail
    go_loop [15, 16] (fun q r => ∃ q' r' : Nat, q = .int .u64 q' ∧ r = .int .u64 r' ∧ Guess a b U v1 Q1 q' r') (fun q _ => (intOf q).toNat)
    case atStart => exact ⟨q0, U - p0, rfl, by congr 1; omega, G1.out⟩
    case round =>
      obtain ⟨q, r, rfl, rfl, G⟩ := hrel
      have HG := Lib.hid G
      have g1 := G.high
      have g2 := G.rest
      clear G
      have step : (4294967296 ≤ q ∨ 4294967296 * r + v1 < q * b) → Hid (1 ≤ q ∧ Q1 ≤ q - 1 ∧ (q - 1) * a + (r + a) = U ∧ q - 1 ≤ 4294967296) :=
        fun hc => HG.out.less hQ1.out (by omega) hQ1b hc
      by_cases c1 : 4294967296 ≤ q
      · have S := step (.inl c1)
        clear step
        have q1 : (1 : Int) ≤ (q : Int) := by have := S.out.1; omega
        have c1' : (4294967296 : Int) ≤ (q : Int) := by omega
        clear c1
        by_cases c2 : (4294967296 : Int) ≤ (r : Int) + (a : Int)
        · have D := Lib.hid (Guess.done (v := v1) b2 S.out.2.2.1 S.out.2.1 S.out.2.2.2 (by omega) hQ1.out (by omega))
          go_wp2_with fail
          go_meet
          exact ⟨by have := D.out; congr 1; omega, rfl⟩
        · have c2' : ¬ (4294967296 : Int) ≤ (r : Int) + (a : Int) := c2
          have G' : Hid (Guess a b U v1 Q1 (q - 1) (r + a)) := ⟨S.out.2.2.1, S.out.2.1, by have := S.out.2.2.2; omega, by omega⟩
          go_wp2_with fail
          go_round
          case rel => exact ⟨q - 1, r + a, by congr 1; omega, by go_num, G'.out⟩
          case measure => simp [intOf]; omega
      · obtain ⟨P, hPn⟩ : ∃ P, q * b = P := ⟨_, rfl⟩
        have hP : (q : Int) * (b : Int) = (P : Int) := by rw [← hPn]; simp
        have hPb : (P : Int) ≤ 18446744073709551615 := by
          have h1 : q * b ≤ 4294967295 * b := Nat.mul_le_mul_right _ (by omega)
          have h2 : 4294967295 * b ≤ 4294967295 * 4294967295 := Nat.mul_le_mul_left _ (by omega)
          omega
        have c1' : ¬ (4294967296 : Int) ≤ (q : Int) := by omega
        clear c1
        by_cases c3 : 4294967296 * r + v1 < P
        · have S := step (.inr (by rw [hPn]; exact c3))
          clear step hPn
          have q1 : (1 : Int) ≤ (q : Int) := by have := S.out.1; omega
          have c3' : (4294967296 : Int) * (r : Int) + (v1 : Int) < (P : Int) := by omega
          clear c3
          by_cases c2 : (4294967296 : Int) ≤ (r : Int) + (a : Int)
          · have D := Lib.hid (Guess.done (v := v1) b2 S.out.2.2.1 S.out.2.1 S.out.2.2.2 (by omega) hQ1.out (by omega))
            go_wp2_with fail
            go_meet
            exact ⟨by have := D.out; congr 1; omega, rfl⟩
          · have c2' : ¬ (4294967296 : Int) ≤ (r : Int) + (a : Int) := c2
            have G' : Hid (Guess a b U v1 Q1 (q - 1) (r + a)) := ⟨S.out.2.2.1, S.out.2.1, by have := S.out.2.2.2; omega, by omega⟩
            go_wp2_with fail
            go_round
            case rel => exact ⟨q - 1, r + a, by congr 1; omega, by go_num, G'.out⟩
            case measure => simp [intOf]; omega
        · have E := Lib.hid (HG.out.exact hQ1.out (by omega) (by rw [hPn]; omega))
          have c3' : ¬ (4294967296 : Int) * (r : Int) + (v1 : Int) < (P : Int) := by omega
          clear step hPn c3
          go_wp2_with fail
          go_meet
          exact ⟨by rw [E.out], rfl⟩
  case rest =>
    obtain ⟨rfl, rfl⟩ := hcut
    go_upto_block 2 with (fail)
    go_cut [18, 16] (fun q _ wx => q = .int .u64 Q2 ∧ wx = wc)
    case first =>
      go_wp2_with fail
      go_loop [18, 16] (fun q r => ∃ q' r' : Nat, q = .int .u64 q' ∧ r = .int .u64 r' ∧ Guess a b R1 v0 Q2 q' r') (fun q _ => (intOf q).toNat)
      case atStart => exact ⟨q2, R1 - p2, rfl, by congr 1; omega, G2.out⟩
      case round =>
        obtain ⟨q, r, rfl, rfl, G⟩ := hrel
        have HG := Lib.hid G
        have g1 := G.high
        have g2 := G.rest
        clear G
        have step : (4294967296 ≤ q ∨ 4294967296 * r + v0 < q * b) → Hid (1 ≤ q ∧ Q2 ≤ q - 1 ∧ (q - 1) * a + (r + a) = R1 ∧ q - 1 ≤ 4294967296) :=
          fun hc => HG.out.less hQ2.out (by omega) hQ2b hc
        by_cases c1 : 4294967296 ≤ q
        · have S := step (.inl c1)
          clear step
          have q1 : (1 : Int) ≤ (q : Int) := by have := S.out.1; omega
          have c1' : (4294967296 : Int) ≤ (q : Int) := by omega
          clear c1
          by_cases c2 : (4294967296 : Int) ≤ (r : Int) + (a : Int)
          · have D := Lib.hid (Guess.done (v := v0) b2 S.out.2.2.1 S.out.2.1 S.out.2.2.2 (by omega) hQ2.out (by omega))
            go_wp2_with fail
            go_meet
            exact ⟨by have := D.out; congr 1; omega, rfl⟩
          · have c2' : ¬ (4294967296 : Int) ≤ (r : Int) + (a : Int) := c2
            have G' : Hid (Guess a b R1 v0 Q2 (q - 1) (r + a)) := ⟨S.out.2.2.1, S.out.2.1, by have := S.out.2.2.2; omega, by omega⟩
            go_wp2_with fail
            go_round
            case rel => exact ⟨q - 1, r + a, by congr 1; omega, by go_num, G'.out⟩
            case measure => simp [intOf]; omega
        · obtain ⟨P, hPn⟩ : ∃ P, q * b = P := ⟨_, rfl⟩
          have hP : (q : Int) * (b : Int) = (P : Int) := by rw [← hPn]; simp
          have hPb : (P : Int) ≤ 18446744073709551615 := by
            have h1 : q * b ≤ 4294967295 * b := Nat.mul_le_mul_right _ (by omega)
            have h2 : 4294967295 * b ≤ 4294967295 * 4294967295 := Nat.mul_le_mul_left _ (by omega)
            omega
          have c1' : ¬ (4294967296 : Int) ≤ (q : Int) := by omega
          clear c1
          by_cases c3 : 4294967296 * r + v0 < P
          · have S := step (.inr (by rw [hPn]; exact c3))
            clear step hPn
            have q1 : (1 : Int) ≤ (q : Int) := by have := S.out.1; omega
            have c3' : (4294967296 : Int) * (r : Int) + (v0 : Int) < (P : Int) := by omega
            clear c3
            by_cases c2 : (4294967296 : Int) ≤ (r : Int) + (a : Int)
            · have D := Lib.hid (Guess.done (v := v0) b2 S.out.2.2.1 S.out.2.1 S.out.2.2.2 (by omega) hQ2.out (by omega))
              go_wp2_with fail
              go_meet
              exact ⟨by have := D.out; congr 1; omega, rfl⟩
            · have c2' : ¬ (4294967296 : Int) ≤ (r : Int) + (a : Int) := c2
              have G' : Hid (Guess a b R1 v0 Q2 (q - 1) (r + a)) := ⟨S.out.2.2.1, S.out.2.1, by have := S.out.2.2.2; omega, by omega⟩
              go_wp2_with fail
              go_round
              case rel => exact ⟨q - 1, r + a, by congr 1; omega, by go_num, G'.out⟩
              case measure => simp [intOf]; omega
          · have E := Lib.hid (HG.out.exact hQ2.out (by omega) (by rw [hPn]; omega))
            have c3' : ¬ (4294967296 : Int) * (r : Int) + (v0 : Int) < (P : Int) := by omega
            clear step hPn c3
            go_wp2_with fail
            go_meet
            exact ⟨by rw [E.out], rfl⟩
    case rest =>
      obtain ⟨rfl, rfl⟩ := hcut
      go_wp2_with fail
      go_ret2
      exact ⟨_, rfl, 0, rfl⟩
end Go.Proofs.Ytmglnfgngnekeaa
