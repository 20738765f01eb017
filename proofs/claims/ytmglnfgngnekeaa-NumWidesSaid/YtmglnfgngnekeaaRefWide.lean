/- What it says: trothref01.Wide hands back a number's big-endian bytes, or the error. -/
import Derived.Test.YtmglnfgngnekeaaOwn
import Derived.Test.YtmglnfgngnekeaaNumMath
import Derived.Laws.Build
namespace Go.Proofs.Ytmglnfgngnekeaa
open Go.RowKit

/-- What is gathered so far: i bytes; m is left. -/
structure RWideRel (n k : Nat) (w : World) (i m : Nat) (A : Option Addr) (c : Nat) (acc : List Int) (wr : World) : Prop where
  own : wr.ownsRow w.heap.size 5 1 (.slice A i c) i (acc.map (Value.int .u8))
  all : wideL (k - i) m ++ acc = wideL k n
  left : m = n / 256 ^ i
  bel : Below w.heap.size w wr

theorem RWideRel.start (n k : Nat) (w : World) : RWideRel n k w 0 n none 0 [] w :=
  ⟨World.ownsRow_nil _ _ _ _, by simp, by simp, Below.refl _ _⟩

theorem RWideRel.rng {n k : Nat} {w : World} {i m : Nat} {A : Option Addr} {c : Nat} {acc : List Int} {wr : World} (h : RWideRel n k w i m A c acc wr) : ∀ x ∈ acc, 0 ≤ x ∧ x < 256 :=
  fun x hx => wideL_rng k n x (by rw [← h.all]; simp [hx])

theorem RWideRel.step {n k : Nat} {w : World} {i m : Nat} {A A' : Option Addr} {c c' i' : Nat} {acc : List Int} {wr w' : World} (h : RWideRel n k w i m A c acc wr) (hik : i < k) (hi : i' = 1 + i)
    (h1 : w'.ownsRow w.heap.size 5 1 (.slice A' i' c') i' (([(m : Int) % 256] ++ acc).map (Value.int .u8)))
    (h2 : (wr.alloc (.cells #[.int .u8 ((m : Int) % 256)] 5)).grownBy w' (Value.ownBlock (.slice (some ⟨wr.heap.size, 0, none⟩) 1 1))) :
    RWideRel n k w i' (m / 256) A' c' ((m : Int) % 256 :: acc) w' := by
  refine ⟨h1, ?_, ?_, (h.bel.alloc h.bel.size _).grown h2 (by have := h.bel.size; simp; omega) (by intro g hg; have := h.bel.size; simp [Value.ownBlock] at hg; omega)⟩
  · have := h.all
    rw [show k - i = (k - i') + 1 from by omega, wideL] at this
    rw [← this]; simp
  · rw [h.left, hi, Nat.div_div_eq_div_mul, Nat.add_comm, Nat.pow_succ]

theorem RWideRel.byt {n k : Nat} {w : World} {m : Nat} {A : Option Addr} {c : Nat} {acc : List Int} {wr : World} (h : RWideRel n k w k m A c acc wr) : Byt wr A k c (wideL k n) := by
  have e := h.all
  rw [Nat.sub_self, wideL, List.nil_append] at e
  rw [← e]
  exact Byt.of_own h.own h.rng

theorem RWideRel.zero {n k : Nat} {w : World} {m : Nat} {A : Option Addr} {c : Nat} {acc : List Int} {wr : World} (h : RWideRel n k w k m A c acc wr) : n < 256 ^ k ↔ m = 0 := by
  have hp : 0 < 256 ^ k := Nat.pow_pos (by decide)
  rw [h.left]
  constructor
  · exact fun h => Nat.div_eq_of_lt h
  · intro h
    rcases Nat.div_eq_zero_iff.1 h with h | h <;> omega

/-- The bytes, or the error: what the document says. -/
def WideEnd (n k : Nat) (w : World) (e : Ending) (w' : World) : Prop :=
  (n < 256 ^ k ∧ RetByt2 (wideL k n) .i64 0 w e w') ∨ (¬ n < 256 ^ k ∧ e = .returned (.tuple #[.slice none 0 0, .int .i64 1]) ∧ Below w.heap.size w w')

set_option maxHeartbeats 1000000 in
theorem refWide_any (n k : Nat) (hn : n < 18446744073709551616) (h1 : 1 ≤ k) (h2 : k ≤ 8) (w : World) :
    Calls Try.prog 10 #[.int .u64 n, .int .i64 k] w (WideEnd n k w) := by
  obtain ⟨i0, hi, hz0, hz1, hz2⟩ := info_parts info_u8
  have R0 := Lib.hid (RWideRel.start n k w)
  go_enter Try.func10, Try.ntmps10
  go_wp2_with fail
  go_loopw [0, 6, 7] (fun s v j wr => ∃ (i m : Nat) (A : Option Addr) (c : Nat) (acc : List Int), i ≤ k ∧ m < 18446744073709551616 ∧ s = .int .u64 m ∧ v = .slice A i c ∧ j = .int .i64 i ∧ RWideRel n k w i m A c acc wr) (fun _ _ j _ => k - (intOf j).toNat)
  case atStart => exact ⟨0, n, none, 0, _, Nat.zero_le _, hn, rfl, rfl, rfl, R0.out⟩
  case round =>
    obtain ⟨i, m, A, c, acc, hik, hm, rfl, rfl, rfl, R⟩ := hrel
    have HR := Lib.hid R
    clear R
    by_cases hlt : i < k
    · have hbs := HR.out.bel.size
      have o1 := own_one wr w.heap.size 5 ((m : Int) % 256) hbs
      have hb := (Byt.of_own HR.out.own HR.out.rng).alloc (.cells #[.int .u8 ((m : Int) % 256)] 5)
      go_wp2_with (at_builtin; refine wpList_append_byt rfl _ _ 23 rfl w.heap.size 5 i0 Try.underlying23 hi hz0 hz1 hz2 _ 1 [(m : Int) % 256] rfl (by exact o1) A i c acc rfl (by exact hb) (by omega) (by simp; omega) ?_)
      intro A' c' w' h1 h2
      have R := Lib.hid (HR.out.step hlt rfl h1 h2)
      clear h1 h2 hb o1
      go_wp2
      go_roundw
      case rel => exact ⟨1 + i, m / 256, _, _, _, by omega, by omega, by go_num, rfl, by go_num, R.out⟩
      case measure => simp [intOf]; omega
    · have hkn : i = k := by omega
      subst hkn
      have H := Lib.hid HR.out.byt
      have Z := Lib.hid HR.out.zero
      by_cases h0 : m = 0
      · have Z1 := Lib.hid (Z.out.2 h0)
        have hz : decide (0 < m) = false := by simp; omega
        clear h0
        go_wp2_with fail
        go_ret2
        exact .inl ⟨Z1.out, _, _, _, rfl, H.out, HR.out.bel⟩
      · have Z1 := Lib.hid (fun h => h0 (Z.out.1 h))
        have hz : 0 < m := by omega
        clear h0
        go_wp2_with fail
        go_ret2
        exact .inr ⟨Z1.out, rfl, HR.out.bel⟩

set_option maxHeartbeats 1000000 in
theorem refWide_no (n : Nat) (x : Int) (_hn : n < 18446744073709551616) (hx : x < 1 ∨ 8 < x) (w : World) :
    Calls Try.prog 10 #[.int .u64 n, .int .i64 x] w fun e w' => e = .returned (.tuple #[.slice none 0 0, .int .i64 1]) ∧ w = w' := by
  rcases hx with h | h
  · go_enter Try.func10, Try.ntmps10
    go_wp2
    go_ret2
    exact ⟨rfl, rfl⟩
  · have h1 : 1 ≤ x := by omega
    go_enter Try.func10, Try.ntmps10
    go_wp2
    go_ret2
    exact ⟨rfl, rfl⟩
end Go.Proofs.Ytmglnfgngnekeaa
