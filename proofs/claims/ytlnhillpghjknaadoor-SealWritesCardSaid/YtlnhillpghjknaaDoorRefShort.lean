/- What it says: trothref01.Short hands back a number's digits to the base 128, in new memory. -/
import Derived.Test.YtlnhillpghjknaaDoorOwn
import Derived.Test.YtlnhillpghjknaaDoorNumMath
import Derived.Laws.Build
namespace Go.Proofs.YtlnhillpghjknaaDoor
open Go.RowKit

/-- What is gathered so far. -/
structure ShortRel (n : Nat) (w : World) (m : Nat) (A : Option Addr) (k c : Nat) (acc : List Int) (wr : World) : Prop where
  own : wr.ownsRow w.heap.size 5 1 (.slice A k c) k (acc.map (Value.int .u8))
  all : hiD m ++ acc = shortL n
  bel : Below w.heap.size w wr

theorem ShortRel.rng {n : Nat} {w : World} {m : Nat} {A : Option Addr} {k c : Nat} {acc : List Int} {wr : World} (h : ShortRel n w m A k c acc wr) : ∀ x ∈ acc, 0 ≤ x ∧ x < 256 :=
  fun x hx => shortL_rng n x (by rw [← h.all]; simp [hx])
theorem ShortRel.len {n : Nat} {w : World} {m : Nat} {A : Option Addr} {k c : Nat} {acc : List Int} {wr : World} (h : ShortRel n w m A k c acc wr) (hn : n < 18446744073709551616) : k ≤ 10 := by
  have h1 := shortL_len n hn
  rw [← h.all] at h1
  have h2 : acc.length = k := by simpa using h.own.1
  simp at h1; omega

theorem ShortRel.step {n : Nat} {w : World} {m : Nat} {A A' : Option Addr} {k c c' k' : Nat} {acc : List Int} {wr w' : World} (h : ShortRel n w m A k c acc wr) (hm : m ≠ 0) (_hk : k' = 1 + k)
    (h1 : w'.ownsRow w.heap.size 5 1 (.slice A' k' c') k' (([((m : Int) % 128) + 128] ++ acc).map (Value.int .u8)))
    (h2 : (wr.alloc (.cells #[.int .u8 (((m : Int) % 128) + 128)] 5)).grownBy w' (Value.ownBlock (.slice (some ⟨wr.heap.size, 0, none⟩) 1 1))) :
    ShortRel n w (m / 128) A' k' c' ((((m : Int) % 128) + 128) :: acc) w' :=
  ⟨h1, by rw [← h.all, hiD_pos hm]; simp, (h.bel.alloc h.bel.size _).grown h2 (by have := h.bel.size; simp; omega) (by intro g hg; have := h.bel.size; simp [Value.ownBlock] at hg; omega)⟩

set_option maxHeartbeats 1000000 in
theorem refShort_own (n : Nat) (hn : n < 18446744073709551616) (w : World) :
    Calls Tryd.prog 40 #[.int .u64 n] w (RetOwn (shortL n) w) := by
  obtain ⟨i0, hi, hz0, hz1, hz2⟩ := info_parts info_u8
  have o1 := own_one w w.heap.size 5 ((n : Int) % 128) (Nat.le_refl _)
  have R0 : Hid (ShortRel n w (n / 128) (some ⟨w.heap.size, 0, none⟩) 1 1 [((n : Int) % 128)] (w.alloc (.cells #[.int .u8 ((n : Int) % 128)] 5))) :=
    ⟨o1, rfl, (Below.refl _ _).alloc (Nat.le_refl _) _⟩
  clear o1
  go_enter Tryd.func40, Tryd.ntmps40
  go_wp2_with fail
  go_loopw [0, 3] (fun s v wr => ∃ (m : Nat) (A : Option Addr) (k c : Nat) (acc : List Int), m < 18446744073709551616 ∧ s = .int .u64 m ∧ v = .slice A k c ∧ ShortRel n w m A k c acc wr) (fun s _ _ => (intOf s).toNat)
  case atStart => exact ⟨n / 128, _, 1, 1, _, by omega, by go_num, rfl, R0.out⟩
  case round =>
    obtain ⟨m, A, k, c, acc, hm, rfl, rfl, R⟩ := hrel
    have HR := Lib.hid R
    clear R
    by_cases h0 : m = 0
    · subst h0
      go_wp2_with fail
      go_ret
      have e := HR.out.all
      rw [hiD_zero, List.nil_append] at e
      exact ⟨A, k, c, rfl, by rw [← e]; exact HR.out.own, by rw [← e]; exact HR.out.rng, HR.out.bel⟩
    · have hpos : (0 : Int) < (m : Int) := by omega
      have hlen := HR.out.len hn
      have hbs := HR.out.bel.size
      have o1 := own_one wr w.heap.size 5 ((m : Int) % 128 + 128) hbs
      have hb := (Byt.of_own HR.out.own HR.out.rng).alloc (.cells #[.int .u8 ((m : Int) % 128 + 128)] 5)
      go_wp2_with (at_builtin; refine wpList_append_byt rfl _ _ 25 rfl w.heap.size 5 i0 Tryd.underlying25 hi hz0 hz1 hz2 _ 1 [(m : Int) % 128 + 128] rfl (by exact o1) A k c acc rfl (by exact hb) (by omega) (by simp; omega) ?_)
      intro A' c' w' h1 h2
      have R := Lib.hid (HR.out.step h0 rfl h1 h2)
      clear h1 h2 hb o1
      go_wp2
      go_roundw
      case rel => exact ⟨m / 128, _, _, _, _, by omega, by go_num, rfl, R.out⟩
      case measure => simp [intOf]; omega

theorem refShort_any (n : Nat) (hn : n < 18446744073709551616) (w : World) :
    Calls Tryd.prog 40 #[.int .u64 n] w (RetByt (shortL n) w) := (refShort_own n hn w).mono fun _ _ h => h.byt
end Go.Proofs.YtlnhillpghjknaaDoor
