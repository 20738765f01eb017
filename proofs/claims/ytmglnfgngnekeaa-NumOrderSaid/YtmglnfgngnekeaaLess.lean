/- What it says: trothref01.Less orders two slices of one length as their lists are ordered, and writes nothing. -/
import Derived.Test.YtmglnfgngnekeaaRows
import Derived.Test.YtmglnfgngnekeaaKit
import Derived.Test.YtmglnfgngnekeaaNumMath
import Derived.Deep.QuietTactic
import Derived.BigQuiet
namespace Go.Proofs.Ytmglnfgngnekeaa
open Go.RowKit

/-- Does l come ahead of l'? (two lists of one length) -/
def lessL : List Int → List Int → Bool
  | x :: r, y :: s => if x = y then lessL r s else decide (x < y)
  | _, _ => false

theorem less_at {l l' : List Int} {k : Nat} (h : k < l.length) (h' : k < l'.length) : lessL (l.drop k) (l'.drop k) = if l.getD k 0 = l'.getD k 0 then lessL (l.drop (k + 1)) (l'.drop (k + 1)) else decide (l.getD k 0 < l'.getD k 0) := by
  rw [List.drop_eq_getElem_cons h, List.drop_eq_getElem_cons h', lessL]
  simp [List.getD, List.getElem?_eq_getElem h, List.getElem?_eq_getElem h']

theorem lessL_snoc (l l' : List Int) (h : l.length = l'.length) (x y : Int) : lessL (l ++ [x]) (l' ++ [y]) = (lessL l l' || (decide (l = l') && decide (x < y))) := by
  induction l generalizing l' with
  | nil =>
    have : l' = [] := List.eq_nil_of_length_eq_zero h.symm
    subst this
    simp only [List.nil_append, lessL]
    by_cases e : x = y <;> simp [e]
  | cons a r ih =>
    cases l' with
    | nil => simp at h
    | cons b s =>
      simp only [List.cons_append, lessL]
      by_cases e : a = b
      · rw [if_pos e, if_pos e, ih s (by simpa using h)]; simp [e]
      · rw [if_neg e, if_neg e]; simp [e]

theorem wideL_inj (k a b : Nat) (ha : a < 256 ^ k) (hb : b < 256 ^ k) (h : wideL k a = wideL k b) : a = b := by
  rw [← ofWide_wideL k a ha, ← ofWide_wideL k b hb, h]

theorem lessL_wide (k a b : Nat) (ha : a < 256 ^ k) (hb : b < 256 ^ k) : lessL (wideL k a) (wideL k b) = decide (a < b) := by
  induction k generalizing a b with
  | zero =>
    have h1 : a = 0 := by simpa using ha
    have h2 : b = 0 := by simpa using hb
    subst h1 h2; rfl
  | succ k ih =>
    rw [Nat.pow_succ] at ha hb
    rw [wideL, wideL, lessL_snoc _ _ (by simp [wideL_len]), ih _ _ (by omega) (by omega)]
    by_cases e : a / 256 = b / 256
    · simp [e]; omega
    · have : wideL k (a / 256) ≠ wideL k (b / 256) := fun h => e (wideL_inj k _ _ (by omega) (by omega) h)
      simp [this]; omega

set_option maxHeartbeats 1000000 in
theorem less_rows (g off n c g' off' c' : Nat) (l l' : List Int) (w : World) (h : Byt w (some ⟨g, off, none⟩) n c l) (h' : Byt w (some ⟨g', off', none⟩) n c' l') (hn : 0 < n) :
    Calls Try.prog 20 #[.slice (some ⟨g, off, none⟩) n c, .slice (some ⟨g', off', none⟩) n c'] w (Quiet (.bool (lessL l l')) w) := by
  have hc0 : ∀ i, i < n → w.cell? ⟨g, off + i, none⟩ = some (.int .u8 (l.getD i 0)) := by
    obtain ⟨g1, o1, e, hc⟩ := h.at_ hn
    injection e with e; injection e with e1 e2; subst e1; subst e2
    exact hc
  have hc1 : ∀ i, i < n → w.cell? ⟨g', off' + i, none⟩ = some (.int .u8 (l'.getD i 0)) := by
    obtain ⟨g1, o1, e, hc⟩ := h'.at_ hn
    injection e with e; injection e with e1 e2; subst e1; subst e2
    exact hc
  have hcap := h.cap
  have hmax := h.max
  unfold maxLen at hmax
  have HL := Lib.hid h.len
  have HL' := Lib.hid h'.len
  have HC0 := Lib.hid hc0
  have HC1 := Lib.hid hc1
  clear hc0 hc1 h h'
  go_enter Try.func20, Try.ntmps20
  go_wp2
  go_loopw [5] (fun i wr => ∃ k : Nat, k ≤ n ∧ i = .int .i64 k ∧ lessL l l' = lessL (l.drop k) (l'.drop k) ∧ ∃ m, wr = w.drewN m) (fun i _ => n - (intOf i).toNat)
  case atStart => exact ⟨0, Nat.zero_le _, rfl, rfl, 0, rfl⟩
  case round =>
    obtain ⟨k, hk, rfl, htk, m, rfl⟩ := hrel
    have HT := Lib.hid htk
    clear htk
    by_cases hlt : k < n
    · have hx := HC0.out k hlt
      have hy := HC1.out k hlt
      have T1 := HT.out
      rw [less_at (by rw [HL.out]; exact hlt) (by rw [HL'.out]; exact hlt)] at T1
      obtain ⟨x, ex⟩ : ∃ x, x = l.getD k 0 := ⟨_, rfl⟩
      obtain ⟨y, ey⟩ : ∃ y, y = l'.getD k 0 := ⟨_, rfl⟩
      rw [← ex] at hx T1
      rw [← ey] at hy T1
      clear ex ey HT
      by_cases hxy : x = y
      · subst hxy
        rw [if_pos rfl] at T1
        have T2 := Lib.hid T1
        clear T1
        go_wp2
        go_quiet (fail)
        go_wp2
        go_roundw
        case rel => exact ⟨k + 1, by omega, by go_num, T2.out, _, rfl⟩
        case measure => simp [intOf]; omega
      · rw [if_neg hxy] at T1
        have T2 := Lib.hid T1
        have hne : (x != y) = true := by simpa using hxy
        clear T1 hxy
        go_wp2
        go_quiet (fail)
        go_wp2
        go_quiet (fail)
        go_wp2
        go_ret
        exact ⟨by rw [T2.out]; rfl, _, by rw [World.drewN_drewN, World.drewN_drewN]⟩
    · have hkn : k = n := by omega
      subst hkn
      have T1 := HT.out
      rw [List.drop_of_length_le (by rw [HL.out]; omega), List.drop_of_length_le (by rw [HL'.out]; omega)] at T1
      have T2 : Hid (lessL l l' = false) := T1
      clear T1 HT
      go_wp2
      go_ret
      exact ⟨by rw [T2.out]; simp, _, rfl⟩

theorem less_is (A : Option Addr) (n c : Nat) (A' : Option Addr) (c' : Nat) (l l' : List Int) (b : Bool) (w : World) (h : Byt w A n c l) (h' : Byt w A' n c' l') (hn : 0 < n) (hb : lessL l l' = b) :
    Calls Try.prog 20 #[.slice A n c, .slice A' n c'] w (Quiet (.bool b) w) := by
  obtain ⟨g, off, rfl, _⟩ := h.at_ hn
  obtain ⟨g', off', rfl, _⟩ := h'.at_ hn
  rw [← hb]
  exact less_rows g off n c g' off' c' l l' w h h' hn
end Go.Proofs.Ytmglnfgngnekeaa
