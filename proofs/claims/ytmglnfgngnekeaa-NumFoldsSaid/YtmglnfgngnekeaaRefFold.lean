/- What it says: trothref01.Fold answers what bytes are folded to. -/
import Derived.Test.YtmglnfgngnekeaaRows
import Derived.Test.YtmglnfgngnekeaaKit
import Derived.Test.YtmglnfgngnekeaaNumMath
import Derived.Deep.QuietTactic
import Derived.BigQuiet
namespace Go.Proofs.Ytmglnfgngnekeaa
open Go.RowKit

/-- What a call answers; nothing is turned. -/
def Same0 (x : Int) (w : World) (e : Ending) (w' : World) : Prop := e = .returned (.int .u64 x) ∧ w = w'

set_option maxHeartbeats 1000000 in
theorem addmod_any (a b n : Nat) (ha : a < n) (hb : b < n) (hn : n ≤ 9223372036854775807) (w : World) :
    Calls Try.prog 29 #[.int .u64 a, .int .u64 b, .int .u64 n] w (Same0 (((a + b) % n : Nat) : Int) w) := by
  by_cases h : n ≤ a + b
  · have e : (a + b) % n = a + b - n := by rw [Nat.mod_eq_sub_mod h, Nat.mod_eq_of_lt (by omega)]
    rw [e]
    clear e
    have t : (n : Int) - (b : Int) ≤ (a : Int) := by omega
    go_enter Try.func29, Try.ntmps29
    go_wp2_with fail
    go_ret
    exact ⟨by show Ending.returned (.int .u64 _) = _; congr 2; omega, rfl⟩
  · have e : (a + b) % n = a + b := Nat.mod_eq_of_lt (by omega)
    rw [e]
    clear e
    have t : ¬ (n : Int) - (b : Int) ≤ (a : Int) := by omega
    go_enter Try.func29, Try.ntmps29
    go_wp2_with fail
    go_ret
    exact ⟨rfl, rfl⟩

theorem mulmod_step (v k a n : Nat) (h : v = k * a % n) : (v + a) % n = (k + 1) * a % n := by
  rw [h, Nat.add_mul, Nat.one_mul, Nat.mod_add_mod]

set_option maxHeartbeats 1000000 in
theorem mulmod_any (a n m : Nat) (hm : Hid (m = 31 * a % n)) (ha : a < n) (hn : n ≤ 9223372036854775807) (w : World) :
    Calls Try.prog 28 #[.int .u64 a, .int .i64 31, .int .u64 n] w (Same0 (m : Int) w) := by
  go_enter Try.func28, Try.ntmps28
  go_wp2_with fail
  go_loop [7, 8] (fun s j => ∃ i v : Nat, i ≤ 31 ∧ s = .int .u64 v ∧ j = .int .i64 i ∧ v = i * a % n) (fun _ j => 31 - (intOf j).toNat)
  case atStart => exact ⟨0, 0, Nat.zero_le _, rfl, rfl, by simp⟩
  case round =>
    obtain ⟨i, v, hi, rfl, rfl, hv⟩ := hrel
    have hvn : v < n := by rw [hv]; exact Nat.mod_lt _ (by omega)
    have ST := Lib.hid (mulmod_step v i a n hv)
    have HV := Lib.hid hv
    clear hv
    by_cases hlt : i < 31
    · obtain ⟨v2, ev2⟩ : ∃ v2, v2 = (i + 1) * a % n := ⟨_, rfl⟩
      have CA := Lib.hid (fun w => addmod_any v a n hvn ha hn w)
      rw [ST.out, ← ev2] at CA
      have EV := Lib.hid ev2
      clear ev2 ST HV
      go_wp2_with fail
      refine (CA.out _).mono ?_
      rintro e w1 ⟨rfl, rfl⟩
      go_wp2_with fail
      go_round
      case rel => exact ⟨i + 1, v2, by omega, rfl, by go_num, EV.out⟩
      case measure => simp [intOf]; omega
    · have h31 : i = 31 := by omega
      subst h31
      obtain rfl : v = m := HV.out.trans hm.out.symm
      clear ST HV hm
      go_wp2_with fail
      go_ret
      exact ⟨rfl, rfl⟩

theorem fold_ref {l : List Int} {N k v x m : Nat} (h : k < l.length) (hv : v = foldL (l.take k) N) (hx : x = (l.getD k 0).toNat) (hm : m = 31 * v % N) : (m + x % N) % N = foldL (l.take (k + 1)) N := by
  rw [foldL_step l N k h, ← hv, ← hx, hm, ← Nat.add_mod, Nat.mul_comm]

set_option maxHeartbeats 2000000 in
theorem refFold_rows (g off n c N : Nat) (l : List Int) (w : World) (h : Byt w (some ⟨g, off, none⟩) n c l) (hn : 0 < n) (h1 : 1 ≤ N) (h2 : N ≤ 9223372036854775807) :
    Calls Try.prog 22 #[.slice (some ⟨g, off, none⟩) n c, .int .i64 N] w (Ret (.int .i64 (foldL l N)) w) := by
  have hc0 : ∀ i, i < n → w.cell? ⟨g, off + i, none⟩ = some (.int .u8 (l.getD i 0)) := by
    obtain ⟨g1, o1, e, hc⟩ := h.at_ hn
    injection e with e; injection e with e1 e2; subst e1; subst e2
    exact hc
  have hcap := h.cap
  have hmax := h.max
  unfold maxLen at hmax
  have HL := Lib.hid h.len
  have HR := Lib.hid h.lt_
  have HC := Lib.hid hc0
  clear hc0 h
  have N0 : ((N : Int) == 0) = false := by simp; omega
  have Npos : (0 : Int) < (N : Int) := by omega
  go_enter Try.func22, Try.ntmps22
  go_wp2_with fail
  go_loop [5, 6] (fun s j => ∃ i v : Nat, i ≤ n ∧ s = .int .u64 v ∧ j = .int .i64 i ∧ v = foldL (l.take i) N) (fun _ j => n - (intOf j).toNat)
  case atStart => exact ⟨0, 0, Nat.zero_le _, rfl, rfl, rfl⟩
  case round =>
    obtain ⟨i, v, hin, rfl, rfl, hv⟩ := hrel
    have HV := Lib.hid hv
    have hvN : v < N := by rw [hv]; exact foldL_lt _ _ (by omega)
    clear hv
    by_cases hlt : i < n
    · have hx := HC.out i hlt
      have hr := HR.out i hlt
      obtain ⟨x, ex⟩ : ∃ x : Nat, x = (l.getD i 0).toNat := ⟨_, rfl⟩
      have exi : l.getD i 0 = (x : Int) := by omega
      rw [exi] at hx hr
      obtain ⟨hr0, hr1⟩ := hr
      have hx256 : x < 256 := by omega
      obtain ⟨m, em⟩ : ∃ m, m = 31 * v % N := ⟨_, rfl⟩
      have hmN : m < N := by rw [em]; exact Nat.mod_lt _ (by omega)
      have FR := fold_ref (by rw [HL.out]; exact hlt) HV.out ex em
      obtain ⟨v2, ev2⟩ : ∃ v2, v2 = foldL (l.take (i + 1)) N := ⟨_, rfl⟩
      rw [← ev2] at FR
      obtain ⟨x2, ex2⟩ : ∃ x2, x % N = x2 := ⟨_, rfl⟩
      have hx2 : (x : Int) % (N : Int) = (x2 : Int) := by rw [← ex2]; simp
      have hx2N : x2 < N := by rw [← ex2]; exact Nat.mod_lt _ (by omega)
      rw [ex2] at FR
      have CM := Lib.hid (fun w => mulmod_any v N m em hvN h2 w)
      have CA := Lib.hid (fun w => addmod_any m x2 N hmN hx2N h2 w)
      rw [FR] at CA
      have EV := Lib.hid ev2
      clear exi ex hr0 hr1 em FR ev2 ex2
      go_wp2_with fail
      refine (CM.out _).mono ?_
      rintro e w1 ⟨rfl, rfl⟩
      go_wp2_with fail
      refine (CA.out _).mono ?_
      rintro e w1 ⟨rfl, rfl⟩
      go_wp2_with fail
      go_round
      case rel => exact ⟨i + 1, v2, by omega, rfl, by go_num, EV.out⟩
      case measure => simp [intOf]; omega
    · have hik : i = n := by omega
      subst hik
      have e := HV.out
      rw [List.take_of_length_le (by rw [HL.out]; omega)] at e
      have E := Lib.hid e
      clear e
      go_wp2_with fail
      go_ret
      exact ⟨by rw [← E.out]; rfl, Below.refl _ _⟩

set_option maxHeartbeats 1000000 in
theorem refFold_any (A : Option Addr) (n c N : Nat) (l : List Int) (w : World) (h : Byt w A n c l) (h1 : 1 ≤ N) (h2 : N ≤ 9223372036854775807) :
    Calls Try.prog 22 #[.slice A n c, .int .i64 N] w (Ret (.int .i64 (foldL l N)) w) := by
  by_cases hn : 0 < n
  · obtain ⟨g, off, rfl, _⟩ := h.at_ hn
    exact refFold_rows g off n c N l w h hn h1 h2
  · have h0 : n = 0 := by omega
    subst h0
    have e : l = [] := List.eq_nil_of_length_eq_zero h.len
    subst e
    clear h hn
    go_enter Try.func22, Try.ntmps22
    go_wp2_with fail
    refine wp_loop_rounds 1 ?_
    rw [rounds_succ]
    go_wp2_with fail
    go_ret
    exact ⟨rfl, Below.refl _ _⟩

set_option maxHeartbeats 1000000 in
theorem refFold_no (A : Option Addr) (n c : Nat) (x : Int) (w : World) (h1 : x < 1) :
    Calls Try.prog 22 #[.slice A n c, .int .i64 x] w (Ret (.int .i64 0) w) := by
  go_enter Try.func22, Try.ntmps22
  go_wp2_with fail
  go_ret
  exact ⟨rfl, Below.refl _ _⟩
end Go.Proofs.Ytmglnfgngnekeaa
