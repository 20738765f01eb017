/- What it says: num.Fold answers what bytes are folded to. -/
import Derived.Test.YtmglnfgngnekeaaRem
import Derived.Test.YtmglnfgngnekeaaNumMath
namespace Go.Proofs.Ytmglnfgngnekeaa
open Go.RowKit

theorem mul31 (v : Nat) (hv : v < 18446744073709551616) : ∃ h l : Nat, h * 18446744073709551616 + l = v * 31 ∧ h ≤ 30 ∧ l < 18446744073709551616 ∧ ∀ w,
    Calls Try.prog 25 #[.int .u64 v, .int .u64 31] w (fun e w' => e = .returned (.tuple #[.int .u64 (h : Int), .int .u64 (l : Int)]) ∧ w = w') := by
  refine ⟨v * 31 / 18446744073709551616, v * 31 % 18446744073709551616, by omega, by omega, by omega, fun w => ?_⟩
  exact (mul64 v 31 hv (by omega) w).mono fun _ _ ⟨he, hw⟩ => ⟨he, hw.symm⟩

theorem addc (l c : Nat) (hl : l < 18446744073709551616) (hc : c < 256) : ∃ l2 k : Nat, k * 18446744073709551616 + l2 = l + c ∧ k ≤ 1 ∧ l2 < 18446744073709551616 ∧ ∀ w,
    (callFunc 26 #[.int .u64 (l : Int), .int .u64 (c : Int), .int .u64 0]).run Try.prog w = .ok (.value (.tuple #[.int .u64 (l2 : Int), .int .u64 (k : Int)])) w := by
  refine ⟨(l + c) % 18446744073709551616, (l + c) / 18446744073709551616, by omega, by omega, by omega, fun w => ?_⟩
  rw [add64 (l : Int) (c : Int) (by omega) (by omega) w]
  simp

theorem fold_sum {hg k lw l2 v x N : Nat} (m1 : hg * 18446744073709551616 + lw = v * 31) (k1 : k * 18446744073709551616 + l2 = lw + x) : ((hg + k) * 18446744073709551616 + l2) % N = (v * 31 + x) % N := by
  rw [Nat.add_mul, Nat.add_assoc, k1, ← Nat.add_assoc, m1]

set_option maxHeartbeats 2000000 in
theorem numFold_rows (g off n c N : Nat) (l : List Int) (w : World) (h : Byt w (some ⟨g, off, none⟩) n c l) (hn : 0 < n) (h1 : 1 ≤ N) (h2 : N ≤ 9223372036854775807) :
    Calls Try.prog 21 #[.slice (some ⟨g, off, none⟩) n c, .int .i64 N] w (Ret (.int .i64 (foldL l N)) w) := by
  have hc0 : ∀ i, i < n → w.cell? ⟨g, off + i, none⟩ = some (.int .u8 (l.getD i 0)) := by
    obtain ⟨g1, o1, e, hc⟩ := h.at_ hn
    injection e with e; injection e with e1 e2; subst e1; subst e2
    exact hc
  have hcap := h.cap
  have hmax := h.max
  unfold maxLen at hmax
  have HL := Lib.hid h.len
  have HR := Lib.hid h.lt_
  have HC := Lib.hid hc0
  clear hc0 h
  go_enter Try.func21, Try.ntmps21
  go_wp2_with fail
  go_loopw [5, 15] (fun s j wr => ∃ i v : Nat, i ≤ n ∧ s = .int .u64 v ∧ j = .int .i64 i ∧ v = foldL (l.take i) N ∧ Below w.heap.size w wr) (fun _ j _ => n - (intOf j).toNat)
  case atStart => exact ⟨0, 0, Nat.zero_le _, rfl, rfl, rfl, Below.refl _ _⟩
  case round =>
    obtain ⟨i, v, hin, rfl, rfl, hv, hbel⟩ := hrel
    have HV := Lib.hid hv
    have HB := Lib.hid hbel
    have hvN : v < N := by rw [hv]; exact foldL_lt _ _ (by omega)
    clear hv
    by_cases hlt : i < n
    · have hx0 := HC.out i hlt
      have hx : wr.cell? ⟨g, off + i, none⟩ = some (.int .u8 (l.getD i 0)) := (hbel.cell (World.block_lt_of_cell? w _ hx0)).trans hx0
      have hr := HR.out i hlt
      have st := foldL_step l N i (by rw [HL.out]; exact hlt)
      rw [← HV.out] at st
      obtain ⟨x, ex⟩ : ∃ x : Nat, x = (l.getD i 0).toNat := ⟨_, rfl⟩
      have exi : l.getD i 0 = (x : Int) := by omega
      rw [exi] at hx hr
      rw [← ex] at st
      have ST := Lib.hid st
      obtain ⟨hr0, hr1⟩ := hr
      have hx256 : x < 256 := by omega
      clear exi ex st hbel hx0 hr0 hr1
      obtain ⟨hg, lw, m1, m2, m3, CM⟩ := mul31 v (by omega)
      obtain ⟨l2, k, k1, k2, k3, CA⟩ := addc lw x m3 hx256
      obtain ⟨sm, esm⟩ : ∃ sm : Nat, sm = hg + k := ⟨_, rfl⟩
      have hsum : (hg : Int) + (k : Int) = (sm : Int) := by omega
      have hcon : (sm * 18446744073709551616 + l2) % N = (v * 31 + x) % N := by rw [esm]; exact fold_sum m1 k1
      have CR := Lib.hid (fun w => Quiet.ret (rem_any sm l2 N (by omega) k3 (by omega) (by omega) w))
      rw [hcon, ← ST.out] at CR
      have HM := Lib.hid CM
      have HN := foldL_lt (l.take (i + 1)) N (by omega)
      clear CM m1 k1 esm hcon
      obtain ⟨v2, ev2⟩ : ∃ v2, v2 = foldL (l.take (i + 1)) N := ⟨_, rfl⟩
      rw [← ev2] at CR HN
      have EV := Lib.hid ev2
      clear ev2 ST
      go_wp2_with fail
      refine (HM.out _).mono ?_
      rintro e w1 ⟨rfl, rfl⟩
      go_wp2_with fail
      refine (CR.out _).mono ?_
      rintro e w2 ⟨rfl, b2⟩
      have B2 := Lib.hid (Below.then HB.out b2)
      clear b2 hx
      go_wp2_with fail
      go_roundw
      case rel => exact ⟨i + 1, v2, by omega, rfl, by go_num, EV.out, B2.out⟩
      case measure => simp [intOf]; omega
    · have hik : i = n := by omega
      subst hik
      have e := HV.out
      rw [List.take_of_length_le (by rw [HL.out]; omega)] at e
      have E := Lib.hid e
      clear e hbel
      go_wp2_with fail
      go_ret
      exact ⟨by rw [← E.out]; rfl, HB.out⟩

theorem foldL_nil (N : Nat) : foldL [] N = 0 := rfl

set_option maxHeartbeats 1000000 in
theorem numFold_any (A : Option Addr) (n c N : Nat) (l : List Int) (w : World) (h : Byt w A n c l) (h1 : 1 ≤ N) (h2 : N ≤ 9223372036854775807) :
    Calls Try.prog 21 #[.slice A n c, .int .i64 N] w (Ret (.int .i64 (foldL l N)) w) := by
  by_cases hn : 0 < n
  · obtain ⟨g, off, rfl, _⟩ := h.at_ hn
    exact numFold_rows g off n c N l w h hn h1 h2
  · have h0 : n = 0 := by omega
    subst h0
    have e : l = [] := List.eq_nil_of_length_eq_zero h.len
    subst e
    clear h hn
    go_enter Try.func21, Try.ntmps21
    go_wp2_with fail
    refine wp_loop_rounds 1 ?_
    rw [rounds_succ]
    go_wp2_with fail
    go_ret
    exact ⟨rfl, Below.refl _ _⟩

set_option maxHeartbeats 1000000 in
theorem numFold_no (A : Option Addr) (n c : Nat) (x : Int) (w : World) (h1 : x < 1) :
    Calls Try.prog 21 #[.slice A n c, .int .i64 x] w (Ret (.int .i64 0) w) := by
  go_enter Try.func21, Try.ntmps21
  go_wp2_with fail
  go_ret
  exact ⟨rfl, Below.refl _ _⟩
end Go.Proofs.Ytmglnfgngnekeaa
