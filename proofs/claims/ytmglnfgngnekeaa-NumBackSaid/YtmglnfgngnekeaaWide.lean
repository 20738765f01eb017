/- What it says: num.Wide hands back a number's big-endian bytes, or the error. -/
import Derived.Test.YtmglnfgngnekeaaOwn
import Derived.Test.YtmglnfgngnekeaaNumMath
import Derived.Laws.Build
import Derived.Laws.MakeOwn
namespace Go.Proofs.Ytmglnfgngnekeaa
open Go.RowKit

theorem isWidth_yes (x : Int) (h1 : 1 ≤ x) (h2 : x ≤ 8) (w : World) : Calls Try.prog 23 #[.int .i64 x] w fun e w' => e = .returned (.bool true) ∧ w = w' := by
  go_enter Try.func23, Try.ntmps23
  go_wp2
  go_ret
  exact ⟨rfl, rfl⟩

theorem isWidth_no (x : Int) (h : x < 1 ∨ 8 < x) (w : World) : Calls Try.prog 23 #[.int .i64 x] w fun e w' => e = .returned (.bool false) ∧ w = w' := by
  rcases h with h | h
  · go_enter Try.func23, Try.ntmps23
    go_wp2
    go_ret
    exact ⟨rfl, rfl⟩
  · have h1 : 1 ≤ x := by omega
    have h2 : decide (x ≤ 8) = false := by simp; omega
    go_enter Try.func23, Try.ntmps23
    go_wp2
    go_ret
    exact ⟨rfl, rfl⟩

theorem pow256 (k : Nat) : (2 : Nat) ^ (8 * k) = 256 ^ k := by rw [Nat.pow_mul]

/-- What is filled in so far. -/
structure WideRel (n k : Nat) (w : World) (i : Nat) (cs : Array Value) (wr : World) : Prop where
  blk : Bk wr w.heap.size 5 cs
  size : cs.size = k
  cells : ∀ j, j < i → cs[k - 1 - j]? = some (.int .u8 ((wideL k n).getD (k - 1 - j) 0))
  bel : Below w.heap.size w wr

theorem WideRel.start (n k : Nat) (w : World) : WideRel n k w 0 (noughts k) (w.alloc (.cells (noughts k) 5)) :=
  ⟨Bk.new _ _ _, noughts_size k, (fun _ h => absurd h (by omega)), (Below.refl _ _).alloc (Nat.le_refl _) _⟩

theorem WideRel.step {n k : Nat} {w : World} {i : Nat} {cs : Array Value} {wr : World} (h : WideRel n k w i cs wr) (hi : i < k) {x : Int} (hx : x = (n : Int) / 2 ^ (8 * i) % 256) :
    WideRel n k w (i + 1) (cs.setIfInBounds (k - 1 - i) (.int .u8 x)) (wr.setCell ⟨w.heap.size, k - 1 - i, none⟩ (.int .u8 x)) := by
  have e : x = (wideL k n).getD (k - 1 - i) 0 := by
    have h2 : (n : Int) / 2 ^ (8 * i) = ((n / 2 ^ (8 * i) : Nat) : Int) := by simp
    rw [wideL_at k n i hi, hx, h2, pow256]
  refine ⟨h.blk.setc _ _, by simp [h.size], fun j hj => ?_, h.bel.setCell (Nat.le_refl _) _⟩
  rw [Array.getElem?_setIfInBounds]
  by_cases hji : j = i
  · subst hji
    rw [if_pos rfl, h.size, if_pos (by omega), e]
  · rw [if_neg (by omega)]
    exact h.cells j (by omega)

theorem WideRel.byt {n k : Nat} {w : World} {cs : Array Value} {wr : World} (h : WideRel n k w k cs wr) (hk : k ≤ 8) : Byt wr (some ⟨w.heap.size, 0, none⟩) k k (wideL k n) :=
  Byt.of_bk h.blk 0 k k _ (wideL_len k n) (Nat.le_refl _) (by unfold maxLen; omega) (wideL_rng k n) (fun i hi => by
    have := h.cells (k - 1 - i) (by omega)
    rw [show k - 1 - (k - 1 - i) = i from by omega] at this
    rw [Nat.zero_add]; exact this)

theorem fits_yes {n k : Nat} (h : n < 256 ^ k) : ((n : Int) / 2 ^ (8 * k) != 0) = false := by
  have h1 : n / 2 ^ (8 * k) = 0 := Nat.div_eq_of_lt (by rw [pow256]; exact h)
  have h2 : (n : Int) / 2 ^ (8 * k) = ((n / 2 ^ (8 * k) : Nat) : Int) := by simp
  rw [h2, h1]; rfl
theorem fits_no {n k : Nat} (h : ¬ n < 256 ^ k) : ((n : Int) / 2 ^ (8 * k) != 0) = true := by
  have hp : 0 < 2 ^ (8 * k) := Nat.pow_pos (by decide)
  have h1 : 0 < n / 2 ^ (8 * k) := Nat.div_pos (by rw [pow256]; omega) hp
  have h2 : (n : Int) / 2 ^ (8 * k) = ((n / 2 ^ (8 * k) : Nat) : Int) := by simp
  rw [h2]
  simp only [bne_iff_ne, ne_eq]
  omega

set_option maxHeartbeats 1000000 in
theorem numWide_yes (n k : Nat) (_hn : n < 18446744073709551616) (h1 : 1 ≤ k) (h2 : k ≤ 8) (hk : n < 256 ^ k) (w : World) :
    Calls Try.prog 9 #[.int .u64 n, .int .i64 k] w (RetByt2 (wideL k n) .i64 0 w) := by
  have hf := fits_yes hk
  have R0 := Lib.hid (WideRel.start n k w)
  have hm := make_bytes k (by omega)
  clear hk
  go_enter Try.func9, Try.ntmps9
  go_wp2_with (go_at_call 23; refine (isWidth_yes _ (by omega) (by omega) _).mono ?_; rintro e w1 ⟨rfl, rfl⟩)
  go_loopw [22] (fun s wr => ∃ (i : Nat) (cs : Array Value), i ≤ k ∧ s = .int .i64 i ∧ WideRel n k w i cs wr) (fun s _ => k - (intOf s).toNat)
  case atStart => exact ⟨0, _, Nat.zero_le _, rfl, R0.out⟩
  case round =>
    obtain ⟨i, cs, hik, rfl, R⟩ := hrel
    have HR := Lib.hid R
    clear R
    by_cases hlt : i < k
    · obtain ⟨u, hc⟩ : ∃ u, wr.cell? ⟨w.heap.size, k - 1 - i, none⟩ = some u := by
        rw [HR.out.blk.cell]; exact ⟨_, Array.getElem?_eq_getElem (by rw [HR.out.size]; omega)⟩
      have hz := HR.out.blk.frz (k - 1 - i)
      have R1 := Lib.hid (fun x hx => HR.out.step hlt (x := x) hx)
      go_wp2_with fail
      have R2 := R1.out _ rfl
      clear R1
      go_roundw
      case rel => exact ⟨i + 1, _, by omega, by go_num, R2⟩
      case measure => simp [intOf]; omega
    · have hkn : i = k := by omega
      subst hkn
      have H := Lib.hid (HR.out.byt h2)
      go_wp2_with fail
      go_ret2
      exact ⟨_, _, _, rfl, H.out, HR.out.bel⟩

set_option maxHeartbeats 1000000 in
theorem numWide_big (n k : Nat) (_hn : n < 18446744073709551616) (h1 : 1 ≤ k) (h2 : k ≤ 8) (hk : ¬ n < 256 ^ k) (w : World) :
    Calls Try.prog 9 #[.int .u64 n, .int .i64 k] w fun e w' => e = .returned (.tuple #[.slice none 0 0, .int .i64 1]) ∧ w = w' := by
  have hf := fits_no hk
  clear hk
  go_enter Try.func9, Try.ntmps9
  go_wp2_with (go_at_call 23; refine (isWidth_yes _ (by omega) (by omega) _).mono ?_; rintro e w1 ⟨rfl, rfl⟩)
  go_ret2
  exact ⟨rfl, rfl⟩

set_option maxHeartbeats 1000000 in
theorem numWide_no (n : Nat) (x : Int) (_hn : n < 18446744073709551616) (hx : x < 1 ∨ 8 < x) (w : World) :
    Calls Try.prog 9 #[.int .u64 n, .int .i64 x] w fun e w' => e = .returned (.tuple #[.slice none 0 0, .int .i64 1]) ∧ w = w' := by
  have HX := Lib.hid hx
  clear hx
  go_enter Try.func9, Try.ntmps9
  go_wp2_with (go_at_call 23; refine (isWidth_no _ HX.out _).mono ?_; rintro e w1 ⟨rfl, rfl⟩)
  go_ret2
  exact ⟨rfl, rfl⟩
end Go.Proofs.Ytmglnfgngnekeaa
