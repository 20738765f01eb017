/- What it says: seal.firstNum and firstText answer the number, the text at the beginning of bytes; nothing is turned. -/
import Derived.Test.YtlnhillpghjknaaDoorStr
import Derived.Test.YtlnhillpghjknaaDoorTake
namespace Go.Proofs.YtlnhillpghjknaaDoor
open Go.RowKit

/-- A number of at most 'most'. -/
def numF (l : List Int) (most : Int) : Nat × Nat × Nat :=
  if (takeF l 0 0).2.2 ≠ 0 then (0, 0, (takeF l 0 0).2.2) else if most < 0 ∨ most < ((takeF l 0 0).1 : Int) then (0, 0, 12) else ((takeF l 0 0).1, (takeF l 0 0).2.1, 0)

/-- A text of at most 'most' bytes, and how many bytes it has with its length. -/
def textF (l : List Int) (most : Int) : List Int × Nat × Nat :=
  if (numF l most).2.2 ≠ 0 then ([], 0, (numF l most).2.2) else if l.length - (numF l most).2.1 < (numF l most).1 then ([], 0, 10) else ((l.drop (numF l most).2.1).take (numF l most).1, (numF l most).2.1 + (numF l most).1, 0)

theorem numF_ok {l : List Int} (hr : ∀ x ∈ l, 0 ≤ x ∧ x < 256) {most : Int} (h : (numF l most).2.2 = 0) : ((numF l most).1 : Int) ≤ most ∧ (numF l most).2.1 ≤ l.length ∧ shortL (numF l most).1 = l.take (numF l most).2.1 := by
  unfold numF at h ⊢
  split at h
  · rename_i h0; exact absurd h h0
  · rename_i h0
    split at h
    · simp at h
    · rename_i h1
      rw [if_neg h0, if_neg h1]
      have := takeF_read l hr (takeF l 0 0).1 (takeF l 0 0).2.1 (Prod.ext rfl (Prod.ext rfl (by omega)))
      simp only [not_or, Int.not_lt] at h1
      exact ⟨h1.2, this.2.1, this.2.2⟩

set_option maxHeartbeats 1000000 in
theorem firstNum_any (A : Option Addr) (n c : Nat) (l : List Int) (most : Int) (w : World) (h : Byt w A n c l) (hm : -9223372036854775808 ≤ most ∧ most ≤ 9223372036854775807) (x k e : Nat) (hF : numF l most = (x, k, e)) :
    Calls Tryd.prog 44 #[.slice A n c, .int .i64 most] w (Quiet (.tuple #[.int .i64 x, .int .i64 k, .int .i64 e]) w) := by
  obtain ⟨x0, k0, e0, ht⟩ : ∃ x k e, takeF l 0 0 = (x, k, e) := ⟨_, _, _, rfl⟩
  have hlt : e0 = 0 → x0 < 18446744073709551616 := fun e => (takeF_read l h.rng x0 k0 (by rw [ht, e])).1
  have C := Lib.hid (numTake_is A n c l x0 k0 e0 w h ht)
  have hF' : (if e0 ≠ 0 then (0, 0, e0) else if most < 0 ∨ most < (x0 : Int) then (0, 0, 12) else (x0, k0, 0)) = (x, k, e) := by
    rw [← hF]; unfold numF; rw [ht]
  clear h ht hF
  by_cases h0 : e0 = 0
  · subst h0
    have hx := hlt rfl
    rw [if_neg (by simp)] at hF'
    clear hlt
    by_cases h1 : most < 0
    · rw [if_pos (Or.inl h1)] at hF'
      injection hF' with e1 e2
      injection e2 with e2 e3
      subst e1 e2 e3
      go_enter Tryd.func44, Tryd.ntmps44
      go_wp2_with fail
      refine C.out.mono ?_
      rintro e w1 ⟨rfl, m, rfl⟩
      go_wp2_with fail
      go_ret3
      exact ⟨rfl, m, rfl⟩
    · obtain ⟨q, rfl⟩ := Int.eq_ofNat_of_zero_le (Int.not_lt.1 h1)
      obtain ⟨_, hq⟩ := hm
      by_cases h2 : q < x0
      · rw [if_pos (Or.inr (by omega))] at hF'
        injection hF' with e1 e2
        injection e2 with e2 e3
        subst e1 e2 e3
        go_enter Tryd.func44, Tryd.ntmps44
        go_wp2_with fail
        refine C.out.mono ?_
        rintro e w1 ⟨rfl, m, rfl⟩
        go_wp2_with fail
        go_ret3
        exact ⟨rfl, m, rfl⟩
      · rw [if_neg (by omega)] at hF'
        injection hF' with e1 e2
        injection e2 with e2 e3
        subst e1 e2 e3
        go_enter Tryd.func44, Tryd.ntmps44
        go_wp2_with fail
        refine C.out.mono ?_
        rintro e w1 ⟨rfl, m, rfl⟩
        go_wp2_with fail
        go_ret3
        exact ⟨rfl, m, rfl⟩
  · rw [if_pos h0] at hF'
    injection hF' with e1 e2
    injection e2 with e2 e3
    subst e1 e2 e3
    have hne : ((e0 : Int) != 0) = true := by simp; omega
    clear hlt h0
    go_enter Tryd.func44, Tryd.ntmps44
    go_wp2_with fail
    refine C.out.mono ?_
    rintro e w1 ⟨rfl, m, rfl⟩
    go_wp2_with fail
    go_ret3
    exact ⟨rfl, m, rfl⟩

/-- A slice, a number and an error. -/
def Ret3 (l : List Int) (u e0 : Nat) (w : World) (e : Ending) (w' : World) : Prop :=
  ∃ A n c, e = .returned (.tuple #[.slice A n c, .int .i64 u, .int .i64 e0]) ∧ Byt w' A n c l ∧ Below w.heap.size w w'

/-- The same of a call that draws at most. -/
def Ret3Q (l : List Int) (u e0 : Nat) (w : World) (e : Ending) (w' : World) : Prop :=
  ∃ A n c, e = .returned (.tuple #[.slice A n c, .int .i64 u, .int .i64 e0]) ∧ Byt w A n c l ∧ ∃ m, w' = w.drewN m

set_option maxHeartbeats 1000000 in
theorem firstText_quiet (A : Option Addr) (n c : Nat) (l : List Int) (most : Int) (w : World) (h : Byt w A n c l) (hm : -9223372036854775808 ≤ most ∧ most ≤ 9223372036854775807) (b : List Int) (u e : Nat) (hF : textF l most = (b, u, e)) :
    Calls Tryd.prog 52 #[.slice A n c, .int .i64 most] w (Ret3Q b u e w) := by
  obtain ⟨x0, k0, e0, ht⟩ : ∃ x k e, numF l most = (x, k, e) := ⟨_, _, _, rfl⟩
  have hok := fun e => numF_ok h.rng (most := most) e
  rw [ht] at hok
  have C := Lib.hid (firstNum_any A n c l most w h hm x0 k0 e0 ht)
  have hF' : (if e0 ≠ 0 then ([], 0, e0) else if l.length - k0 < x0 then ([], 0, 10) else ((l.drop k0).take x0, k0 + x0, 0)) = (b, u, e) := by
    rw [← hF]; unfold textF; rw [ht]
  have hlen := h.len
  have hcap := h.cap
  have hmax := h.max
  unfold maxLen at hmax
  clear ht hF
  by_cases h0 : e0 = 0
  · subst h0
    obtain ⟨hx, hk, _⟩ := hok rfl
    simp only at hx hk
    rw [if_neg (by simp)] at hF'
    clear hok
    by_cases h2 : n - k0 < x0
    · rw [if_pos (by omega)] at hF'
      injection hF' with e1 e2
      injection e2 with e2 e3
      subst e1 e2 e3
      clear h
      have hkn : k0 ≤ n := by omega
      go_enter Tryd.func52, Tryd.ntmps52
      go_wp2_with fail
      refine C.out.mono ?_
      rintro e w1 ⟨rfl, m, rfl⟩
      go_wp2_with fail
      go_ret3
      exact ⟨none, 0, 0, rfl, Byt.nil _, _, rfl⟩
    · rw [if_neg (by omega)] at hF'
      injection hF' with e1 e2
      injection e2 with e2 e3
      subst e1 e2 e3
      have hkn : k0 ≤ n := by omega
      obtain ⟨B, m, d, hs, hmd, hb⟩ := cut_lh h k0 (k0 + x0) (by omega) (by omega) (k0 : Int) ((k0 : Int) + (x0 : Int)) rfl (by omega)
      rw [Nat.add_sub_cancel_left] at hmd hb
      have HB := Lib.hid hb
      clear h hb hmd
      go_enter Tryd.func52, Tryd.ntmps52
      go_wp2_with fail
      refine C.out.mono ?_
      rintro e w1 ⟨rfl, j, rfl⟩
      go_wp2_with fail
      go_ret3
      exact ⟨B, m, d, rfl, HB.out, j, rfl⟩
  · rw [if_pos h0] at hF'
    injection hF' with e1 e2
    injection e2 with e2 e3
    subst e1 e2 e3
    have hne : ((e0 : Int) != 0) = true := by simp; omega
    clear h0 hok
    go_enter Tryd.func52, Tryd.ntmps52
    go_wp2_with fail
    refine C.out.mono ?_
    rintro e w1 ⟨rfl, m, rfl⟩
    go_wp2_with fail
    go_ret3
    exact ⟨none, 0, 0, rfl, Byt.nil _, _, rfl⟩

theorem firstText_any (A : Option Addr) (n c : Nat) (l : List Int) (most : Int) (w : World) (h : Byt w A n c l) (hm : -9223372036854775808 ≤ most ∧ most ≤ 9223372036854775807) (b : List Int) (u e : Nat) (hF : textF l most = (b, u, e)) :
    Calls Tryd.prog 52 #[.slice A n c, .int .i64 most] w (Ret3 b u e w) :=
  (firstText_quiet A n c l most w h hm b u e hF).mono fun _ _ ⟨A', n', c', he, hb, m, hw⟩ => ⟨A', n', c', he, by rw [hw]; exact hb.drewN m, by rw [hw]; exact below_drewN (Below.refl _ _) m⟩
end Go.Proofs.YtlnhillpghjknaaDoor
