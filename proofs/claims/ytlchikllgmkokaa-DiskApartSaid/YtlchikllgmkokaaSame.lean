/- What it says: trothref01.Same tells whether two slices read as the same bytes, and writes nothing. -/
import Derived.Test.YtlchikllgmkokaaRows
import Derived.Test.YtlchikllgmkokaaKit
import Derived.Deep.QuietTactic
import Derived.BigQuiet
namespace Go.Proofs.Ytlchikllgmkokaa
open Go.RowKit

theorem take_one_more {l l' : List Int} {k : Nat} (h : l.take k = l'.take k) (hk : k < l.length) (hk' : k < l'.length) (he : l.getD k 0 = l'.getD k 0) : l.take (k + 1) = l'.take (k + 1) := by
  rw [List.take_succ_eq_append_getElem hk, List.take_succ_eq_append_getElem hk', h]
  simp [List.getD, List.getElem?_eq_getElem hk, List.getElem?_eq_getElem hk'] at he
  rw [he]

theorem same_ne {l l' : List Int} {k : Nat} (he : l.getD k 0 ≠ l'.getD k 0) : decide (l = l') = false := by
  simp only [decide_eq_false_iff_not]
  intro e
  rw [e] at he
  exact he rfl

theorem same_all {l l' : List Int} {n : Nat} (hl : l.length = n) (hl' : l'.length = n) (h : l.take n = l'.take n) : decide (l = l') = true := by
  simp only [decide_eq_true_eq]
  rwa [List.take_of_length_le (by omega), List.take_of_length_le (by omega)] at h

set_option maxHeartbeats 800000 in
theorem same_rows (g off n c g' off' c' : Nat) (l l' : List Int) (w : World) (h : Byt w (some ⟨g, off, none⟩) n c l) (h' : Byt w (some ⟨g', off', none⟩) n c' l') (hn : 0 < n) :
    Calls Try.prog 20 #[.slice (some ⟨g, off, none⟩) n c, .slice (some ⟨g', off', none⟩) n c'] w (Quiet (.bool (decide (l = l'))) w) := by
  have hc0 : ∀ i, i < n → w.cell? ⟨g, off + i, none⟩ = some (.int .u8 (l.getD i 0)) := by
    obtain ⟨g1, o1, e, hc⟩ := h.at_ hn
    injection e with e; injection e with e1 e2; subst e1; subst e2
    exact hc
  have hc1 : ∀ i, i < n → w.cell? ⟨g', off' + i, none⟩ = some (.int .u8 (l'.getD i 0)) := by
    obtain ⟨g1, o1, e, hc⟩ := h'.at_ hn
    injection e with e; injection e with e1 e2; subst e1; subst e2
    exact hc
  have hcap := h.cap
  have hmax := h.max
  unfold maxLen at hmax
  have HL := Lib.hid h.len
  have HL' := Lib.hid h'.len
  have HC0 := Lib.hid hc0
  have HC1 := Lib.hid hc1
  clear hc0 hc1 h h'
  go_enter Try.func20, Try.ntmps20
  go_wp2
  go_loopw [5] (fun i wr => ∃ k : Nat, k ≤ n ∧ i = .int .i64 k ∧ l.take k = l'.take k ∧ ∃ m, wr = w.drewN m) (fun i _ => n - (intOf i).toNat)
  case atStart => exact ⟨0, Nat.zero_le _, rfl, rfl, 0, rfl⟩
  case round =>
    obtain ⟨k, hk, rfl, htk, m, rfl⟩ := hrel
    have HT := Lib.hid htk
    clear htk
    by_cases hlt : k < n
    · have hx := HC0.out k hlt
      have hy := HC1.out k hlt
      have H1 := Lib.hid (take_one_more HT.out (by rw [HL.out]; exact hlt) (by rw [HL'.out]; exact hlt))
      have H2 := Lib.hid (@same_ne l l' k)
      obtain ⟨x, ex⟩ : ∃ x, x = l.getD k 0 := ⟨_, rfl⟩
      obtain ⟨y, ey⟩ : ∃ y, y = l'.getD k 0 := ⟨_, rfl⟩
      rw [← ex] at hx H1 H2
      rw [← ey] at hy H1 H2
      clear ex ey
      go_wp2
      go_quiet (fail)
      go_wp2
      · have hne : (x != y) = true := by assumption
        have e := H2.out (by simpa using hne)
        go_ret
        exact ⟨by rw [e]; rfl, _, World.drewN_drewN _ _ _⟩
      · have heq : (x != y) = false := by assumption
        have e := H1.out (by simpa using heq)
        go_roundw
        case rel => exact ⟨k + 1, by omega, by go_num, e, _, rfl⟩
        case measure => simp [intOf]; omega
    · have hkn : k = n := by omega
      subst hkn
      go_wp2
      have e := same_all HL.out HL'.out HT.out
      go_ret
      exact ⟨by rw [e]; rfl, _, rfl⟩

theorem same_any (A : Option Addr) (n c : Nat) (A' : Option Addr) (n' c' : Nat) (l l' : List Int) (w : World) (h : Byt w A n c l) (h' : Byt w A' n' c' l') :
    Calls Try.prog 20 #[.slice A n c, .slice A' n' c'] w (Quiet (.bool (decide (l = l'))) w) := by
  by_cases hnn : n = n'
  · subst hnn
    by_cases hn : 0 < n
    · obtain ⟨g, off, rfl, _⟩ := h.at_ hn
      obtain ⟨g', off', rfl, _⟩ := h'.at_ hn
      exact same_rows g off n c g' off' c' l l' w h h' hn
    · have h0 : n = 0 := by omega
      subst h0
      have e : l = [] := List.eq_nil_of_length_eq_zero h.len
      have e' : l' = [] := List.eq_nil_of_length_eq_zero h'.len
      subst e e'
      clear h h' hn
      go_enter Try.func20, Try.ntmps20
      go_wp2
      refine wp_loop_rounds 1 ?_
      rw [rounds_succ]
      go_wp2
      go_ret
      exact ⟨rfl, 0, rfl⟩
  · have hd : decide (l = l') = false := by
      simp only [decide_eq_false_iff_not]
      intro e
      exact hnn (by rw [← h.len, ← h'.len, e])
    have HD := Lib.hid hd
    have hne : ((n : Int) != (n' : Int)) = true := by simp; omega
    clear hd h h' hnn
    go_enter Try.func20, Try.ntmps20
    go_wp2
    go_ret
    exact ⟨by rw [HD.out]; rfl, 0, rfl⟩

theorem same_yes (A : Option Addr) (n c : Nat) (A' : Option Addr) (n' c' : Nat) (l l' : List Int) (w : World) (h : Byt w A n c l) (h' : Byt w A' n' c' l') (e : l = l') :
    Calls Try.prog 20 #[.slice A n c, .slice A' n' c'] w (Quiet (.bool true) w) := by
  have := same_any A n c A' n' c' l l' w h h'
  rw [show decide (l = l') = true from by simp [e]] at this
  exact this

theorem same_no (A : Option Addr) (n c : Nat) (A' : Option Addr) (n' c' : Nat) (l l' : List Int) (w : World) (h : Byt w A n c l) (h' : Byt w A' n' c' l') (e : l ≠ l') :
    Calls Try.prog 20 #[.slice A n c, .slice A' n' c'] w (Quiet (.bool false) w) := by
  have := same_any A n c A' n' c' l l' w h h'
  rw [show decide (l = l') = false from by simp [e]] at this
  exact this
end Go.Proofs.Ytlchikllgmkokaa
